import PyProof.Rows.All
import Wide.All
import OpenK.AllK
import Wide.FinOn
import HandS.AnyAll
import HandS.Codes
import HandS.Conv
import HandS.Defaults
import HandS.Ends
import HandS.Evl
import HandS.ExcField
import HandS.ExcInit
import HandS.ExcIs
import HandS.ExcOwn
import HandS.FStr
import HandS.ForMost
import HandS.Head0
import HandS.Head1
import HandS.Head2
import HandS.HeadEnd
import HandS.HeadHook1
import HandS.HeadHook2
import HandS.HeadHook3
import HandS.HeadHook4
import HandS.HeadWalk
import HandS.HotCalls
import HandS.IsInst
import HandS.MakeKw
import HandS.MakeKwOnly
import HandS.More
import HandS.Property
import HandS.SetFor
import HandS.SortInts
import HandS.SortKw
import HandS.Star
import HandS.Steps
import HandS.Strs
import HandS.Walk
import HandS.Wide
import HandS.Words
import HandS.WordsExc
import KE.KExcIs
import KE.KMinKey
import KE.SortData
import PySem.Challenge.RW_wardwork_k23_each_deed_changes_one_row
set_option Elab.async false
set_option linter.all false
set_option maxRecDepth 100000
set_option maxHeartbeats 4000000
/-! Wk: rules that the layer lacks, and steps that read a term from the left. -/
namespace Wk
open PySem PySem.Spec PyProof.Rows L2

/-! ### rules -/
section
variable {X : Cx}
theorem get_list : PGet X (rIxL X.K) := by
  intro pins s σ H o i ov iv Q I ro ri h
  obtain ⟨p, xs, k, z, rfl, rfl, hq, he, q⟩ := h
  cases ro
  obtain ⟨t, rfl⟩ := ri
  obtain ⟨its, r, pl, hz⟩ := I.list hq
  obtain ⟨j, e1, e2, e3, e4, e5⟩ := atI_get he
  obtain ⟨w, ew, rw'⟩ := r.get e2
  have hl := r.length
  have hn := line63
  have done : EP X pins σ Q w s := ⟨z, H, I, rw', q⟩
  by_cases h0 : 0 ≤ k
  · have hj : k.toNat = j := by
      rw [seqIndex_of h0 e5] at e1
      exact Option.some.inj e1
    exact wpAny_getItem_list pl.isList h0 (by omega) (by rw [hj]; simpa using ew) done
  · have hj : (k + (its.toArray.size : Int)).toNat = j := by
      rw [seqIndex_neg (by omega) e4] at e1
      rw [List.size_toArray, ← hl]
      exact Option.some.inj e1
    exact wpAny_getItem_list_neg pl.isList (by omega) (by rw [List.size_toArray] <;> omega) (by omega) (by rw [hj]; simpa using ew) done
end

/-- the built-in names that the module leaves as they are -/
structure Bt (mg : Str → Option Value) : Prop where
  b_int : mg "int" = none
  b_len : mg "len" = none
  b_range : mg "range" = none
  b_list : mg "list" = none
  b_abs : mg "abs" = none
  b_min : mg "min" = none
  b_max : mg "max" = none
  b_isinstance : mg "isinstance" = none
  b_bool : mg "bool" = none
  b_str : mg "str" = none
  b_tuple : mg "tuple" = none
  b_dict : mg "dict" = none
  b_sorted : mg "sorted" = none
  b_all : mg "all" = none
  b_any : mg "any" = none
  b_zip : mg "zip" = none
  b_enumerate : mg "enumerate" = none
  b_sum : mg "sum" = none
/-! ### heaps: how they may change -/
/-- all that H knows outside S stands in H' -/
def Upt (S : List Addr) (H H' : Hp) : Prop := ∀ b o, b ∉ S → H b = some o → H' b = some o
theorem Upt.refl {S : List Addr} (H : Hp) : Upt S H H := fun _ _ _ h => h
theorem Upt.trans {S : List Addr} {H H1 H2 : Hp} (a : Upt S H H1) (b : Upt S H1 H2) : Upt S H H2 := fun c o n h => b c o n (a c o n h)
theorem Upt.mono {S T : List Addr} {H H1 : Hp} (h : ∀ b ∈ S, b ∈ T) (a : Upt S H H1) : Upt T H H1 := fun c o n e => a c o (fun z => n (h c z)) e
theorem Upt.at1 {s b : Addr} {o : HO} {H H1 : Hp} (a : Upt [s] H H1) (n : b ≠ s) (e : H b = some o) : H1 b = some o := a b o (fun z => n (List.mem_singleton.mp z)) e
theorem Upt.at0 {b : Addr} {o : HO} {H H1 : Hp} (a : Upt [] H H1) (e : H b = some o) : H1 b = some o := a b o (fun z => by cases z) e
theorem Upt.free {S : List Addr} {H H1 : Hp} {b : Addr} (a : Upt S H H1) (n : b ∉ S) (e : H1 b = none) : H b = none := by
  cases q : H b with
  | none => rfl
  | some o => rw [a b o n q] at e; cases e
theorem Upt.upd {s : Addr} {o : HO} {H : Hp} : Upt [s] H (upd H s o) := fun b u n e => by
  rw [upd_ne (fun z => n (List.mem_singleton.mpr z))]; exact e
theorem Upt.seqL {S : List Addr} {K : PySem.W.Frag} {H H1 : Hp} {a : Addr} {xs : List V} (u : Upt S H H1) (n : a ∉ S) (h : SqL K H a xs) : SqL K H1 a xs := by
  rcases h with (h | ⟨o, h⟩) | h
  · exact .inl (.inl (u _ _ n h))
  · exact .inl (.inr ⟨o, u _ _ n h⟩)
  · exact .inr h
theorem Upt.seqT {S : List Addr} {K : PySem.W.Frag} {H H1 : Hp} {a : Addr} {xs : List V} (u : Upt S H H1) (n : a ∉ S) (h : SqT K H a xs) : SqT K H1 a xs := by
  rcases h with (h | ⟨o, h⟩) | h
  · exact .inl (.inl (u _ _ n h))
  · exact .inl (.inr ⟨o, u _ _ n h⟩)
  · exact .inr h
theorem _root_.L2.SqL.upt {K : PySem.W.Frag} {H H1 : Hp} {a : Addr} {xs : List V} (h : SqL K H a xs) (u : Upt [] H H1) : SqL K H1 a xs := u.seqL (by simp) h
theorem _root_.L2.SqT.upt {K : PySem.W.Frag} {H H1 : Hp} {a : Addr} {xs : List V} (h : SqT K H a xs) (u : Upt [] H H1) : SqT K H1 a xs := u.seqT (by simp) h
/-- o is new at p -/
structure New (H H' : Hp) (p : Addr) (o : HO) : Prop where
  no : H p = none
  at_ : H' p = some o
  keep : Upt [] H H'
theorem New.of {H : Hp} {p : Addr} {o : HO} (h : H p = none) : New H (upd H p o) p o := ⟨h, upd_same, fun b u _ e => by rw [upd_ne (ne_of_none e h)]; exact e⟩
theorem New.ne {H H' : Hp} {p b : Addr} {o u : HO} (n : New H H' p o) (h : H b = some u) : b ≠ p := ne_of_none h n.no
theorem New.ne' {H H' : Hp} {p b : Addr} {o u : HO} (n : New H H' p o) (h : H b = some u) : p ≠ b := Ne.symm (n.ne h)
/-- o stands at l now, nothing else has changed -/
structure Chg (H H' : Hp) (l : Addr) (o : HO) : Prop where
  at_ : H' l = some o
  keep : Upt [l] H H'
theorem Chg.of {H : Hp} {p : Addr} {o : HO} : Chg H (upd H p o) p o := ⟨upd_same, Upt.upd⟩

/-! ### steps -/
section
variable {K : PySem.W.Frag} {σ : L2.St} {H : Hp} {Q : VK} {QA : List V → Hp → Prop} {QT : Bool → Hp → Prop} {ta tb tc te tv : TE} {tt tu : TT} {t tr : TA} {u1 u2 : TS} {D : Ends} {v x y : V} {i j : Int} {r : R2}
theorem w_var {n : Nat} (h : σ[n]? = some (some v)) (q : Q v H) : tVar n σ H Q := ⟨v, h, q⟩
theorem w_c (q : Q v H) : tC v σ H Q := q
theorem w_op (h : ta σ H fun x H1 => tb σ H1 fun y H2 => r x y H2 Q) : tOp r ta tb σ H Q := h
theorem w_un {g : V → Hp → VK → Prop} (h : ta σ H fun x H1 => g x H1 Q) : tUn g ta σ H Q := h
theorem w_I0 {g : Int → Int → V} (q : Q (g i j) H) : rI0 g (.int i) (.int j) H Q := ⟨i, j, rfl, rfl, q⟩
theorem w_I {C : Int → Int → Prop} {g : Int → Int → V} (c : C i j) (q : Q (g i j) H) : rI C g (.int i) (.int j) H Q := ⟨i, j, rfl, rfl, c, q⟩
theorem w_U {g : Int → V} (q : Q (g i) H) : rU g (.int i) H Q := ⟨i, rfl, q⟩
theorem w_eq (h : scal x y = true) (q : Q (.bl (decide (x = y))) H) : rEq x y H Q := ⟨h, q⟩
theorem w_ne (h : scal x y = true) (q : Q (.bl (!decide (x = y))) H) : rNe x y H Q := ⟨h, q⟩
theorem dec_int (i j : Int) : decide (V.int i = V.int j) = decide (i = j) := by
  by_cases h : i = j
  · subst h; simp
  · rw [decide_eq_false h, decide_eq_false (fun e => h (V.int.inj e))]
theorem dec_str (i j : Str) : decide (V.str i = V.str j) = decide (i = j) := by
  by_cases h : i = j
  · subst h; simp
  · rw [decide_eq_false h, decide_eq_false (fun e => h (V.str.inj e))]
theorem w_eqI (q : Q (.bl (decide (i = j))) H) : rEq (.int i) (.int j) H Q := ⟨rfl, by rw [dec_int]; exact q⟩
theorem w_neI (q : Q (.bl (!decide (i = j))) H) : rNe (.int i) (.int j) H Q := ⟨rfl, by rw [dec_int]; exact q⟩
theorem w_eqS {a b : Str} (q : Q (.bl (decide (a = b))) H) : rEq (.str a) (.str b) H Q := ⟨rfl, by rw [dec_str]; exact q⟩
theorem w_neS {a b : Str} (q : Q (.bl (!decide (a = b))) H) : rNe (.str a) (.str b) H Q := ⟨rfl, by rw [dec_str]; exact q⟩
theorem w_test (h : te σ H fun x H' => ∃ k, x = .bl k ∧ QT k H') : tTest te σ H QT := h
theorem w_tB (h : te σ H fun x H' => ∃ k, x = .bl k ∧ QT k H') : tB te σ H QT := h
theorem w_k {b : Bool} {P : Bool → Prop} (q : P b) : ∃ k, V.bl b = .bl k ∧ P k := ⟨b, rfl, q⟩
theorem w_not (h : tt σ H fun c H1 => QT (!c) H1) : tNot tt σ H QT := h
theorem w_and (h : tt σ H fun c H1 => if c = true then tu σ H1 QT else QT false H1) : tAnd tt tu σ H QT := h
theorem w_or (h : tt σ H fun c H1 => if c = true then QT true H1 else tu σ H1 QT) : tOr tt tu σ H QT := h
theorem w_andV (h : ta σ H fun x H1 => ∃ c, x = .bl c ∧ if c = true then tb σ H1 Q else Q (.bl false) H1) : tAndV ta tb σ H Q := h
theorem w_orV (h : ta σ H fun x H1 => ∃ c, x = .bl c ∧ if c = true then Q (.bl true) H1 else tb σ H1 Q) : tOrV ta tb σ H Q := h
theorem w_notV (h : ta σ H fun x H1 => ∃ c, x = .bl c ∧ Q (.bl (!c)) H1) : tNotV ta σ H Q := h
theorem w_ifE (h : tt σ H fun c H1 => if c = true then ta σ H1 Q else tb σ H1 Q) : tIf tt ta tb σ H Q := h
theorem w_next (h : D.nx σ H) : tNext D σ H := h
theorem w_seq (h : u1 { D with nx := u2 D } σ H) : tSeq u1 u2 D σ H := h
theorem w_ifS (h : tt σ H fun b H1 => if b = true then u1 D σ H1 else u2 D σ H1) : tIfS tt u1 u2 D σ H := h
theorem w_ret (h : te σ H D.rt) : tRet te D σ H := h
theorem w_retN (h : D.rt .non H) : tRetN D σ H := h
theorem w_drop (h : te σ H fun _ H1 => D.nx σ H1) : tDrop te D σ H := h
theorem w_set {n : Nat} (h : te σ H fun x H1 => D.nx (σ.set n (some x)) H1) : tAsg te (gName n) D σ H := h
theorem w_asg {g : TG} (h : te σ H fun x H1 => g x σ H1 D.nx) : tAsg te g D σ H := h
theorem w_nil (q : QA [] H) : tNil σ H QA := q
theorem w_cons (h : ta σ H fun x H1 => tr σ H1 fun xs H2 => QA (x :: xs) H2) : tCons ta tr σ H QA := h
/-- a new object, and what follows with its address -/
def KNew (n : Nat) (H : Hp) (o : HO) (Q : VK) : Prop := n ≤ sizeLine ∧ ∀ p, H p = none → Q (.ref p) (upd H p o)
theorem w_tup (h : t σ H fun xs H1 => KNew xs.length H1 (.tup xs) Q) : tTup t σ H Q := h
theorem w_lst (h : t σ H fun xs H1 => KNew xs.length H1 (.lst xs) Q) : tLst t σ H Q := h
theorem w_new {n : Nat} {o : HO} (hs : n ≤ sizeLine) (h : ∀ p H2, New H H2 p o → Q (.ref p) H2) : KNew n H o Q := ⟨hs, fun p hp => h p _ (New.of hp)⟩
theorem w_dnew (h : ∀ p H2, New H H2 p (.dK []) → Q (.ref p) H2) : tDNewK σ H Q := fun p hp => h p _ (New.of hp)
/-- an attribute read -/
def KFld (K : PySem.W.Frag) (f : Str) (x : V) (H : Hp) (Q : VK) : Prop := ∃ a C dx fs v, x = .ref a ∧ H a = some (.ins C dx fs) ∧ Cls K C ∧ NoAttr K C f ∧ fs.lookup f = some v ∧ Q v H
theorem w_fld {f : Str} (h : ta σ H fun x H1 => KFld K f x H1 Q) : tFld K ta f σ H Q := h
theorem w_kfld {f : Str} {a C dx : Addr} {fs : List (Str × V)} (ho : H a = some (.ins C dx fs)) (c : Cls K C) (n : NoAttr K C f) (l : fs.lookup f = some v) (q : Q v H) : KFld K f (.ref a) H Q := ⟨a, C, dx, fs, v, rfl, ho, c, n, l, q⟩
/-- calls of built-ins -/
def CB (g : List V → Hp → VK → Prop) (vs : List V) (H : Hp) (Q : VK) : Prop := g vs H Q
theorem w_cb {g : List V → Hp → VK → Prop} (h : t σ H fun vs H1 => CB g vs H1 Q) : tCB g t σ H Q := h
/-- calls of defs -/
theorem w_call {sp : Sp} {E : XK} (h : t σ H fun vs H1 => sp vs H1 Q E) : tCall sp [] E t σ H Q := by
  show t σ H fun vs H1 => sp (vs ++ []) H1 Q E
  simpa only [List.append_nil] using h
theorem w_callD {sp : Sp} {E : XK} {dvs : List V} (h : t σ H fun vs H1 => sp (vs ++ dvs) H1 Q E) : tCall sp dvs E t σ H Q := h
/-- methods of lists, texts -/
def KBM (K : PySem.W.Frag) (T : String) (g : V → List V → Hp → VK → Prop) (t : TA) (σ : L2.St) (x : V) (H : Hp) (Q : VK) : Prop := tyV K T x H ∧ t σ H fun xs H2 => g x xs H2 Q
theorem w_bm {T : String} {g : V → List V → Hp → VK → Prop} (h : ta σ H fun x H1 => KBM K T g t σ x H1 Q) : tBM K T g ta t σ H Q := h
theorem w_kbm {T : String} {g : V → List V → Hp → VK → Prop} (ty : tyV K T x H) (h : t σ H fun xs H2 => g x xs H2 Q) : KBM K T g t σ x H Q := ⟨ty, h⟩
def KBM0 (K : PySem.W.Frag) (T : String) (g : V → List V → Hp → VK → Prop) (x : V) (H : Hp) (Q : VK) : Prop := tyV K T x H ∧ g x [] H Q
theorem w_bm0 {T : String} {g : V → List V → Hp → VK → Prop} (h : ta σ H fun x H1 => KBM0 K T g x H1 Q) : tBM0 K T g ta σ H Q := h
theorem w_kbm0 {T : String} {g : V → List V → Hp → VK → Prop} (ty : tyV K T x H) (h : g x [] H Q) : KBM0 K T g x H Q := ⟨ty, h⟩
theorem ty_list {p : Addr} {xs : List V} (h : SqL K H p xs) : tyV K "list" (.ref p) H := Or.inl ⟨rfl, _, h⟩
theorem w_append {l : Addr} {xs : List V} (h : H l = some (.lst xs)) (hz : xs.length < sizeLine) (q : ∀ H2, Chg H H2 l (.lst (xs ++ [y])) → Q .non H2) : rAppend (.ref l) [y] H Q := ⟨l, xs, y, rfl, rfl, h, hz, q _ Chg.of⟩
theorem w_popAt {l : Addr} {xs : List V} {n : Nat} (h : H l = some (.lst xs)) (hn : n < xs.length) (hb : n < 2 ^ 62) (hv : xs[n]? = some y) (q : ∀ H2, Chg H H2 l (.lst (xs.eraseIdx n)) → Q y H2) : rPopAt (.ref l) [.int (n : Int)] H Q :=
  ⟨l, xs, (n : Int), n, y, rfl, rfl, h, by omega, by omega, by rw [seqIndex_of (by omega) (by omega)]; simp, hv, q _ Chg.of⟩
/-- items -/
theorem w_ixL {p : Addr} {xs : List V} (h : SqL K H p xs) (ha : atI xs i = some v) (q : Q v H) : rIxL K (.ref p) (.int i) H Q := ⟨p, xs, i, v, rfl, rfl, h, ha, q⟩
theorem w_ixT {p : Addr} {xs : List V} (h : SqT K H p xs) (ha : atI xs i = some v) (q : Q v H) : rIxT K (.ref p) (.int i) H Q := ⟨p, xs, i, v, rfl, rfl, h, ha, q⟩
theorem w_ixS {z : Str} {c : Nat} (hz : z.length ≤ sizeLine) (ha : atI z.cps.toList i = some c) (q : Q (.str ⟨#[c]⟩) H) : rIxS (.str z) (.int i) H Q := ⟨z, i, c, rfl, rfl, hz, ha, q⟩
theorem w_setI {p : Addr} {xs : List V} {n : Nat} {P : Hp → Prop} (h : H p = some (.lst xs)) (hn : ixN xs.length i = some n) (q : ∀ H2, Chg H H2 p (.lst (xs.set n v)) → P H2) : rSetL (.ref p) (.int i) v H P := ⟨p, xs, i, n, rfl, rfl, h, hn, q _ Chg.of⟩
theorem w_gsub {t0 t1 : TE} {ts : TSet} {P : L2.St → Hp → Prop} (h : t0 σ H fun o H1 => t1 σ H1 fun i H2 => ts o i v H2 fun H3 => P σ H3) : gSub t0 t1 ts v σ H P := h
theorem w_aug {n : Nat} {ti : TIp} (hx : σ[n]? = some (some x)) (h : te σ H fun y H1 => ti x y H1 fun z H2 => D.nx (σ.set n (some z)) H2) : tAug n te ti D σ H := ⟨x, hx, h⟩
theorem w_augS {t0 t1 : TE} {tg : V → V → Hp → VK → Prop} {ti : TIp} {ts : TSet} (h : t0 σ H fun o H1 => t1 σ H1 fun i H2 => tg o i H2 fun x H3 => te σ H3 fun y H4 => ti x y H4 fun z H5 => ts o i z H5 fun H6 => D.nx σ H6) : tAugS t0 t1 te tg ti ts D σ H := h
theorem w_ipI {f : Int → Int → Int} (q : Q (.int (f i j)) H) : ipI f (.int i) (.int j) H Q := ⟨i, j, rfl, rfl, q⟩
theorem w_ixAny {p : Addr} {xs : List V} (h : SqL K H p xs ∨ SqT K H p xs) (ha : atI xs i = some v) (q : Q v H) : rIx K (.ref p) (.int i) H Q := by
  rcases h with h | h
  · exact .inl (w_ixL h ha q)
  · exact .inr (.inl (w_ixT h ha q))
theorem w_ixAnyS {z : Str} {c : Nat} (hz : z.length ≤ sizeLine) (ha : atI z.cps.toList i = some c) (q : Q (.str ⟨#[c]⟩) H) : rIx K (.str z) (.int i) H Q := .inr (.inr (w_ixS hz ha q))
/-- ways -/
theorem w_ite {p : Prop} [Decidable p] {A B : Prop} (h1 : p → A) (h2 : ¬ p → B) : if decide p = true then A else B := by
  by_cases h : p
  · rw [decide_eq_true h]; exact h1 h
  · rw [decide_eq_false h]; exact h2 h
theorem w_iteN {p : Prop} [Decidable p] {A B : Prop} (h1 : ¬ p → A) (h2 : p → B) : if (!decide p) = true then A else B := by
  by_cases h : p
  · rw [decide_eq_true h]; exact h2 h
  · rw [decide_eq_false h]; exact h1 h
theorem w_iteT {p : Prop} [Decidable p] {A B : Prop} (hp : p) (h : A) : if decide p = true then A else B := by rw [decide_eq_true hp]; exact h
theorem w_iteF {p : Prop} [Decidable p] {A B : Prop} (hp : ¬ p) (h : B) : if decide p = true then A else B := by rw [decide_eq_false hp]; exact h
theorem w_iteNT {p : Prop} [Decidable p] {A B : Prop} (hp : ¬ p) (h : A) : if (!decide p) = true then A else B := by rw [decide_eq_false hp]; exact h
theorem w_iteNF {p : Prop} [Decidable p] {A B : Prop} (hp : p) (h : B) : if (!decide p) = true then A else B := by rw [decide_eq_true hp]; exact h
theorem w_true {A B : Prop} (h : A) : if true = true then A else B := h
theorem w_false {A B : Prop} (h : B) : if false = true then A else B := h
theorem w_ntrue {A B : Prop} (h : B) : if (!true) = true then A else B := h
theorem w_nfalse {A B : Prop} (h : A) : if (!false) = true then A else B := h
end
theorem w_cut {u1 u2 : TS} {D : Ends} {σ : L2.St} {H : Hp} (Mid : L2.St → Hp → Prop) (h1 : u1 { D with nx := Mid } σ H) (h2 : ∀ σ' H', Mid σ' H' → u2 D σ' H') : C8.tCut u1 u2 D σ H := ⟨Mid, h1, h2⟩
theorem log2_lt {m : Int} (h0 : 0 < m) (h1 : m ≤ 4611686018427387904) : CDivW 0 m := ⟨h0, by
  have h : m.natAbs < 2 ^ 63 := by omega
  have := Nat.log2_lt (n := m.natAbs) (k := 63) (by omega)
  omega⟩
theorem item_int {ns : List Int} {i : Nat} {y : V} (h : (ns.map V.int)[i]? = some y) : ∃ n, y = V.int n := by
  rw [List.getElem?_map] at h
  cases e : ns[i]? with
  | none => rw [e] at h; cases h
  | some n => rw [e] at h; exact ⟨n, (Option.some.inj h).symm⟩
theorem atI_ints {ns : List Int} {i : Int} (h0 : 0 ≤ i) (h1 : i < ns.length) : ∃ n, n ∈ ns ∧ atI (ns.map V.int) i = some (V.int n) := by
  obtain ⟨j, rfl⟩ := Int.eq_ofNat_of_zero_le h0
  have hj : j < ns.length := by omega
  exact ⟨ns[j], List.getElem_mem hj, atI_nat (by rw [List.getElem?_map, List.getElem?_eq_getElem hj]; rfl)⟩
/-! ### what kind a value is of -/
section
variable {K : PySem.W.Frag} {H : Hp} {Q : VK} {x : V}
theorem w_isN (q : Q (.bl (decide (x = .non))) H) : rIsN x .non H Q := ⟨rfl, q⟩
theorem w_notN (q : Q (.bl (!decide (x = .non))) H) : rNotN x .non H Q := ⟨rfl, q⟩
theorem c_isi {t T : String} {b : Bool} (ty : TyX K H x (.type t)) (h : kitB t T = some b) (q : Q (.bl b) H) : CB (rIsi K) [x, .ty T] H Q := ⟨x, .ty T, .type t, .type T, b, rfl, .ty T, ty, kit_ty h, q⟩
theorem ty_non : TyX K H .non (.type "NoneType") := .base .non
theorem ty_bl {b : Bool} : TyX K H (.bl b) (.type "bool") := .base (.bl b)
theorem ty_int {i : Int} : TyX K H (.int i) (.type "int") := .base (.int i)
theorem ty_str {z : Str} : TyX K H (.str z) (.type "str") := .base (.str z)
theorem ty_L {a : Addr} {xs : List V} (h : SqL K H a xs) : TyX K H (.ref a) (.type "list") := by
  rcases h with (h | ⟨o, h⟩) | ⟨o, its, n, h1, h2, _⟩
  · exact .base (.lst h)
  · exact .base (.frz h)
  · exact .kList h1 h2
theorem ty_T {a : Addr} {xs : List V} (h : SqT K H a xs) : TyX K H (.ref a) (.type "tuple") := by
  rcases h with (h | ⟨o, h⟩) | ⟨o, its, n, h1, h2, _⟩
  · exact .base (.tup h)
  · exact .fTuple h
  · exact .kTuple h1 h2
theorem k_nn : kitB "NoneType" "bool" = some false := by decide +kernel
theorem k_bb : kitB "bool" "bool" = some true := by decide +kernel
theorem k_bi : kitB "bool" "int" = some true := by decide +kernel
theorem k_ib : kitB "int" "bool" = some false := by decide +kernel
theorem k_ii : kitB "int" "int" = some true := by decide +kernel
theorem k_is : kitB "int" "str" = some false := by decide +kernel
theorem k_il : kitB "int" "list" = some false := by decide +kernel
theorem k_it : kitB "int" "tuple" = some false := by decide +kernel
theorem k_bs : kitB "bool" "str" = some false := by decide +kernel
theorem k_bl : kitB "bool" "list" = some false := by decide +kernel
theorem k_bt : kitB "bool" "tuple" = some false := by decide +kernel
theorem k_sb : kitB "str" "bool" = some false := by decide +kernel
theorem k_si : kitB "str" "int" = some false := by decide +kernel
theorem k_ss : kitB "str" "str" = some true := by decide +kernel
theorem k_sl : kitB "str" "list" = some false := by decide +kernel
theorem k_st : kitB "str" "tuple" = some false := by decide +kernel
theorem k_lb : kitB "list" "bool" = some false := by decide +kernel
theorem k_li : kitB "list" "int" = some false := by decide +kernel
theorem k_ls : kitB "list" "str" = some false := by decide +kernel
theorem k_ll : kitB "list" "list" = some true := by decide +kernel
theorem k_lt : kitB "list" "tuple" = some false := by decide +kernel
theorem k_tb : kitB "tuple" "bool" = some false := by decide +kernel
theorem k_ti : kitB "tuple" "int" = some false := by decide +kernel
theorem k_ts : kitB "tuple" "str" = some false := by decide +kernel
theorem k_tl : kitB "tuple" "list" = some false := by decide +kernel
theorem k_tt : kitB "tuple" "tuple" = some true := by decide +kernel
theorem k_ni : kitB "NoneType" "int" = some false := by decide +kernel
theorem k_ns : kitB "NoneType" "str" = some false := by decide +kernel
theorem k_nl : kitB "NoneType" "list" = some false := by decide +kernel
theorem k_nt : kitB "NoneType" "tuple" = some false := by decide +kernel
end
/-! ### data -/
/-- what is no list and no tuple -/
inductive Sc : V → PyData → Prop where
  | non : Sc .non .none
  | bl (b : Bool) : Sc (.bl b) (.bool b)
  | int (i : Int) : Sc (.int i) (.int i)
  | str (x : Str) : Sc (.str x) (.str x)
/-- v is the datum d, lists and tuples nested at most n deep, none of them in S -/
def Dn (K : PySem.W.Frag) (S : List Addr) (H : Hp) : Nat → V → PyData → Prop
  | 0, v, d => Sc v d
  | n + 1, v, d => Sc v d ∨ (∃ a xs ds, v = .ref a ∧ d = .list ds ∧ a ∉ S ∧ SqL K H a xs ∧ xs.length ≤ 100000 ∧ Paired (Dn K S H n) xs ds) ∨
      (∃ a xs ds, v = .ref a ∧ d = .tuple ds ∧ a ∉ S ∧ SqT K H a xs ∧ xs.length ≤ 100000 ∧ Paired (Dn K S H n) xs ds)
section
variable {K : PySem.W.Frag} {S S' : List Addr} {H H' : Hp}
theorem Dn.sc {v : V} {d : PyData} (h : Sc v d) : ∀ {n : Nat}, Dn K S H n v d
  | 0 => h
  | _ + 1 => .inl h
theorem Dn.upt (u : Upt S' H H') (hs : ∀ a ∈ S', a ∈ S) : ∀ {n : Nat} {v : V} {d : PyData}, Dn K S H n v d → Dn K S H' n v d
  | 0, _, _, h => h
  | n + 1, v, d, h => by
    rcases h with h | ⟨a, xs, ds, e1, e2, ha, hq, hl, p⟩ | ⟨a, xs, ds, e1, e2, ha, hq, hl, p⟩
    · exact .inl h
    · exact .inr (.inl ⟨a, xs, ds, e1, e2, ha, u.seqL (fun z => ha (hs a z)) hq, hl, Paired.mapP p fun x y q => Dn.upt u hs q⟩)
    · exact .inr (.inr ⟨a, xs, ds, e1, e2, ha, u.seqT (fun z => ha (hs a z)) hq, hl, Paired.mapP p fun x y q => Dn.upt u hs q⟩)
theorem Dn.weak (hs : ∀ a ∈ S', a ∈ S) : ∀ {n : Nat} {v : V} {d : PyData}, Dn K S H n v d → Dn K S' H n v d
  | 0, _, _, h => h
  | n + 1, v, d, h => by
    rcases h with h | ⟨a, xs, ds, e1, e2, ha, hq, hl, p⟩ | ⟨a, xs, ds, e1, e2, ha, hq, hl, p⟩
    · exact .inl h
    · exact .inr (.inl ⟨a, xs, ds, e1, e2, fun z => ha (hs a z), hq, hl, Paired.mapP p fun x y q => Dn.weak hs q⟩)
    · exact .inr (.inr ⟨a, xs, ds, e1, e2, fun z => ha (hs a z), hq, hl, Paired.mapP p fun x y q => Dn.weak hs q⟩)
theorem Dn.up : ∀ {n m : Nat} {v : V} {d : PyData}, n ≤ m → Dn K S H n v d → Dn K S H m v d
  | 0, 0, _, _, _, h => h
  | 0, _ + 1, _, _, _, h => .inl h
  | n + 1, 0, _, _, l, _ => absurd l (by omega)
  | n + 1, m + 1, v, d, l, h => by
    rcases h with h | ⟨a, xs, ds, e1, e2, ha, hq, hl, p⟩ | ⟨a, xs, ds, e1, e2, ha, hq, hl, p⟩
    · exact .inl h
    · exact .inr (.inl ⟨a, xs, ds, e1, e2, ha, hq, hl, Paired.mapP p fun x y q => Dn.up (by omega) q⟩)
    · exact .inr (.inr ⟨a, xs, ds, e1, e2, ha, hq, hl, Paired.mapP p fun x y q => Dn.up (by omega) q⟩)
theorem Dn.tup {n : Nat} {a : Addr} {xs : List V} {ds : List PyData} (h : SqT K H a xs) (ha : a ∉ S) (hl : xs.length ≤ 100000) (p : Paired (Dn K S H n) xs ds) : Dn K S H (n + 1) (.ref a) (.tuple ds) := .inr (.inr ⟨a, xs, ds, rfl, rfl, ha, h, hl, p⟩)
theorem Dn.lst {n : Nat} {a : Addr} {xs : List V} {ds : List PyData} (h : SqL K H a xs) (ha : a ∉ S) (hl : xs.length ≤ 100000) (p : Paired (Dn K S H n) xs ds) : Dn K S H (n + 1) (.ref a) (.list ds) := .inr (.inl ⟨a, xs, ds, rfl, rfl, ha, h, hl, p⟩)
theorem Dn.int {n : Nat} {i : Int} : Dn K S H n (.int i) (.int i) := .sc (.int i)
theorem Dn.str {n : Nat} {z : Str} : Dn K S H n (.str z) (.str z) := .sc (.str z)
theorem Dn.non {n : Nat} : Dn K S H n .non .none := .sc .non
theorem Dn.bl {n : Nat} {b : Bool} : Dn K S H n (.bl b) (.bool b) := .sc (.bl b)
theorem Dn.ints {n : Nat} : ∀ {ns : List Int}, Paired (Dn K S H n) (ns.map V.int) (ns.map PyData.int)
  | [] => .nil
  | _ :: _ => .cons Dn.int Dn.ints
end
theorem paired_at {α β : Type} {F : α → β → Prop} : ∀ {xs : List α} {ys : List β} {i : Nat} {x : α}, Paired F xs ys → xs[i]? = some x → ∃ y, ys[i]? = some y ∧ F x y
  | _, _, _, _, .nil, e => by simp at e
  | _, _, 0, _, .cons r _, e => by simp at e; subst e; exact ⟨_, rfl, r⟩
  | _, _, i + 1, x, .cons _ t, e => by
    obtain ⟨u, h1, h2⟩ := paired_at (i := i) (x := x) t (by simpa using e)
    exact ⟨u, by simpa using h1, h2⟩
/-! ### loops -/
section
variable {K : PySem.W.Frag} {σ : L2.St} {H : Hp} {Q : VK} {tl : TE} {ta : TA} {tb : TS} {D : Ends} {g : TG}
/-- the loop's own part of a for over J -/
def KFor (J : It) (g : TG) (tb : TS) (D : Ends) (σ : L2.St) (H : Hp) : Prop := ∃ W : Nat → Nat → L2.St → Hp → Prop, (∃ m, W 0 m σ H) ∧ ∀ i m σ H, W i m σ H →
  (J.stop i H ∧ D.nx σ H) ∨ (J.go i H ∧ ∃ N : L2.St → Hp → Prop, (∀ σ' H', N σ' H' → ∃ m', m' < m ∧ W (i + 1) m' σ' H') ∧ ∀ x H', J.yld i H x H' → g x σ H' fun σ2 H2 => tb { D with nx := N, ct := N, bk := D.nx } σ2 H2)
def KForL (K : PySem.W.Frag) (g : TG) (tb : TS) (D : Ends) (σ : L2.St) (x : V) (H : Hp) : Prop := ∃ a, x = .ref a ∧ (∃ xs, SqL K H a xs) ∧ KFor (Itl K a) g tb D σ H
def KForT (K : PySem.W.Frag) (g : TG) (tb : TS) (D : Ends) (σ : L2.St) (x : V) (H : Hp) : Prop := ∃ a, x = .ref a ∧ (∃ xs, SqT K H a xs) ∧ KFor (Itt K a) g tb D σ H
def KForS (g : TG) (tb : TS) (D : Ends) (σ : L2.St) (v : V) (H : Hp) : Prop := ∃ x, v = .str x ∧ KFor (Its x) g tb D σ H
def KForR (g : TG) (tb : TS) (D : Ends) (σ : L2.St) (vs : List V) (H : Hp) : Prop := ∃ j : Int, vs = [.int j] ∧ -(2 ^ 62) ≤ j ∧ j < 2 ^ 62 ∧ KFor (Itr 0 j.toNat) g tb D σ H
theorem w_forL (h : tl σ H fun x H1 => KForL K g tb D σ x H1) : tFor (iList K tl) g tb D σ H := h
theorem w_forT (h : tl σ H fun x H1 => KForT K g tb D σ x H1) : tFor (iTup K tl) g tb D σ H := h
theorem w_forS (h : tl σ H fun x H1 => KForS g tb D σ x H1) : tFor (iStr tl) g tb D σ H := h
theorem w_forR (h : ta σ H fun vs H1 => KForR g tb D σ vs H1) : tFor (iRng1 ta) g tb D σ H := h
theorem l_list {a : Addr} {xs : List V} {n : Nat} (h : SqL K H a xs) (Pv : Nat → L2.St → Hp → Prop) (h0 : Pv 0 σ H) (hl : ∀ i σ H, i ≤ xs.length → Pv i σ H → SqL K H a xs)
    (hs : ∀ i y σ H, xs[i]? = some y → Pv i σ H → tb { D with nx := Pv (i + 1), ct := Pv (i + 1), bk := D.nx } (σ.set n (some y)) H) (hd : ∀ σ H, Pv xs.length σ H → D.nx σ H) : KForL K (gName n) tb D σ (.ref a) H :=
  ⟨a, rfl, ⟨xs, h⟩, for_list (K := K) (a := a) (xs := xs) Pv h0 hl hs hd⟩
theorem l_tup {a : Addr} {xs : List V} {n : Nat} (h : SqT K H a xs) (Pv : Nat → L2.St → Hp → Prop) (h0 : Pv 0 σ H) (hl : ∀ i σ H, i ≤ xs.length → Pv i σ H → SqT K H a xs)
    (hs : ∀ i y σ H, xs[i]? = some y → Pv i σ H → tb { D with nx := Pv (i + 1), ct := Pv (i + 1), bk := D.nx } (σ.set n (some y)) H) (hd : ∀ σ H, Pv xs.length σ H → D.nx σ H) : KForT K (gName n) tb D σ (.ref a) H :=
  ⟨a, rfl, ⟨xs, h⟩, for_tup (K := K) (a := a) (xs := xs) Pv h0 hl hs hd⟩
theorem l_range {j : Int} {n m : Nat} (hj : j = (m : Int)) (hb : m ≤ 1000000) (Pv : Nat → L2.St → Hp → Prop) (h0 : Pv 0 σ H)
    (hs : ∀ (i : Nat) σ H, i < m → Pv i σ H → tb { D with nx := Pv (i + 1), ct := Pv (i + 1), bk := D.nx } (σ.set n (some (.int (i : Int)))) H) (hd : ∀ σ H, Pv m σ H → D.nx σ H) : KForR (gName n) tb D σ [.int j] H := by
  subst hj
  refine ⟨(m : Int), rfl, by omega, by omega, ?_⟩
  have e : ((m : Int)).toNat = m := by simp
  rw [e]
  refine for_range (lo := 0) (n := m) Pv h0 (fun i σ H hi p => ?_) hd
  have z : (0 : Int) + (i : Int) = (i : Int) := Int.zero_add _
  show tb _ (σ.set n (some (.int ((0 : Int) + (i : Int))))) H
  rw [z]
  exact hs i σ H hi p
theorem l_str {z : Str} {n : Nat} (Pv : Nat → L2.St → Hp → Prop) (h0 : Pv 0 σ H)
    (hs : ∀ (i c : Nat) σ H, z.cps.toList[i]? = some c → Pv i σ H → tb { D with nx := Pv (i + 1), ct := Pv (i + 1), bk := D.nx } (σ.set n (some (.str ⟨#[c]⟩))) H) (hd : ∀ σ H, Pv z.cps.toList.length σ H → D.nx σ H) : KForS (gName n) tb D σ (.str z) H := by
  have el : z.cps.toList.length = z.cps.size := by simp
  refine ⟨z, rfl, fun i m σ H => m = z.cps.size - i ∧ i ≤ z.cps.size ∧ Pv i σ H, ⟨z.cps.size, by simp, Nat.zero_le _, h0⟩, ?_⟩
  rintro i m σ H ⟨rfl, hi, p⟩
  by_cases hlt : i < z.cps.size
  · refine .inr ⟨hlt, Pv (i + 1), fun σ' H' p' => ⟨z.cps.size - (i + 1), by omega, rfl, hlt, p'⟩, fun x H' y => ?_⟩
    obtain ⟨e, c, hc, ev⟩ := y
    subst e
    subst ev
    exact hs i c σ H' (by rw [Array.getElem?_toList]; exact hc) p
  · have e2 : i = z.cps.size := by omega
    subst e2
    exact .inl ⟨Nat.le_refl _, hd _ _ (by rw [el]; exact p)⟩
/-! comprehensions -/
def KLc (J : It) (g : TG) (tt : TT) (te : TE) (vs : List Nat) (σ : L2.St) (H1 : Hp) (Q : VK) : Prop := ∀ D, H1 D = none → ∃ W : Nat → Nat → Hp → Prop, (∃ m, W 0 m (upd H1 D (.lst []))) ∧ ∀ i m H, W i m H →
  (J.stop i H ∧ Q (.ref D) H) ∨ (J.go i H ∧ ∃ Nx : Hp → Prop, (∀ H', Nx H' → ∃ m', m' < m ∧ W (i + 1) m' H') ∧ ∀ x H', J.yld i H x H' → g x (wipe σ vs) H' fun σ2 H2 => wipe σ2 vs = wipe σ vs ∧ tt σ2 H2 fun b H3 =>
    if b = true then te σ2 H3 fun y H4 => ∃ acc, H4 D = some (.lst acc) ∧ acc.length < sizeLine ∧ Nx (upd H4 D (.lst (acc ++ [y]))) else Nx H3)
def KLcR (g : TG) (tt : TT) (te : TE) (us : List Nat) (σ : L2.St) (Q : VK) (vs : List V) (H : Hp) : Prop := ∃ j : Int, vs = [.int j] ∧ -(2 ^ 62) ≤ j ∧ j < 2 ^ 62 ∧ KLc (Itr 0 j.toNat) g tt te us σ H Q
def KLcL (K : PySem.W.Frag) (g : TG) (tt : TT) (te : TE) (us : List Nat) (σ : L2.St) (Q : VK) (x : V) (H : Hp) : Prop := ∃ a, x = .ref a ∧ (∃ xs, SqL K H a xs) ∧ KLc (Itl K a) g tt te us σ H Q
def KLcT (K : PySem.W.Frag) (g : TG) (tt : TT) (te : TE) (us : List Nat) (σ : L2.St) (Q : VK) (x : V) (H : Hp) : Prop := ∃ a, x = .ref a ∧ (∃ xs, SqT K H a xs) ∧ KLc (Itt K a) g tt te us σ H Q
variable {tt : TT} {te : TE} {us : List Nat}
theorem w_lcR (h : ta σ H fun vs H1 => KLcR g tt te us σ Q vs H1) : tLc (iRng1 ta) g tt te us σ H Q := h
theorem w_lcL (h : tl σ H fun x H1 => KLcL K g tt te us σ Q x H1) : tLc (iList K tl) g tt te us σ H Q := h
theorem w_lcT (h : tl σ H fun x H1 => KLcT K g tt te us σ Q x H1) : tLc (iTup K tl) g tt te us σ H Q := h
/-- what is made stands behind the list at D -/
def KApp (D : Addr) (P : Hp → Prop) (y : V) (H : Hp) : Prop := ∃ acc, H D = some (.lst acc) ∧ acc.length < sizeLine ∧ P (upd H D (.lst (acc ++ [y])))
theorem w_kapp {D : Addr} {P : Hp → Prop} {y : V} {acc : List V} (h : H D = some (.lst acc)) (hz : acc.length < sizeLine) (q : ∀ H5, Chg H H5 D (.lst (acc ++ [y])) → P H5) : KApp D P y H := ⟨acc, h, hz, q _ Chg.of⟩
/-- [e for k in range(m)] -/
theorem lc_R {j : Int} {n m : Nat} (hj : j = (m : Int)) (hb : m ≤ 1000000) (Pv : Nat → Addr → Hp → Prop) (h0 : ∀ D H1, New H H1 D (.lst []) → Pv 0 D H1)
    (hs : ∀ (i : Nat) D H, i < m → Pv i D H → te ((σ.set n none).set n (some (.int (i : Int)))) H (KApp D (Pv (i + 1) D)))
    (hd : ∀ D H, Pv m D H → Q (.ref D) H) : KLcR (gName n) tYes te [n] σ Q [.int j] H := by
  subst hj
  refine ⟨(m : Int), rfl, by omega, by omega, fun D hD => ?_⟩
  have e : ((m : Int)).toNat = m := by simp
  rw [e]
  refine lc_range (lo := 0) (n := m) (fun i H => Pv i D H) (h0 D _ (New.of hD)) (fun i H hi p => ?_) fun H p => hd D H p
  have z : (0 : Int) + (i : Int) = (i : Int) := Int.zero_add _
  refine ⟨?_, ?_⟩
  · show List.set (List.set (List.set σ n none) n (some (V.int ((0 : Int) + (i : Int))))) n none = List.set σ n none
    simp
  · show te (List.set (List.set σ n none) n (some (V.int ((0 : Int) + (i : Int))))) H (KApp D (Pv (i + 1) D))
    rw [z]
    exact hs i D H hi p
/-- [e for x in xs] -/
theorem lc_L {a : Addr} {xs : List V} {n : Nat} (h : SqL K H a xs) (Pv : Nat → Addr → Hp → Prop) (h0 : ∀ D H1, New H H1 D (.lst []) → Pv 0 D H1) (hl : ∀ i D H, i ≤ xs.length → Pv i D H → SqL K H a xs)
    (hs : ∀ (i : Nat) x D H, xs[i]? = some x → Pv i D H → te ((σ.set n none).set n (some x)) H (KApp D (Pv (i + 1) D)))
    (hd : ∀ D H, Pv xs.length D H → Q (.ref D) H) : KLcL K (gName n) tYes te [n] σ Q (.ref a) H := by
  refine ⟨a, rfl, ⟨xs, h⟩, fun D hD => ?_⟩
  refine lc_list (K := K) (a := a) (xs := xs) (fun i H => Pv i D H) (h0 D _ (New.of hD)) (fun i H hi p => hl i D H hi p) (fun i x H hi p => ?_) fun H p => hd D H p
  refine ⟨?_, ?_⟩
  · show List.set (List.set (List.set σ n none) n (some x)) n none = List.set σ n none
    simp
  · show te (List.set (List.set σ n none) n (some x)) H (KApp D (Pv (i + 1) D))
    exact hs i x D H hi p
theorem lc_T {a : Addr} {xs : List V} {n : Nat} (h : SqT K H a xs) (Pv : Nat → Addr → Hp → Prop) (h0 : ∀ D H1, New H H1 D (.lst []) → Pv 0 D H1) (hl : ∀ i D H, i ≤ xs.length → Pv i D H → SqT K H a xs)
    (hs : ∀ (i : Nat) x D H, xs[i]? = some x → Pv i D H → te ((σ.set n none).set n (some x)) H (KApp D (Pv (i + 1) D)))
    (hd : ∀ D H, Pv xs.length D H → Q (.ref D) H) : KLcT K (gName n) tYes te [n] σ Q (.ref a) H := by
  refine ⟨a, rfl, ⟨xs, h⟩, fun D hD => ?_⟩
  refine lc_tup (K := K) (a := a) (xs := xs) (fun i H => Pv i D H) (h0 D _ (New.of hD)) (fun i H hi p => hl i D H hi p) (fun i x H hi p => ?_) fun H p => hd D H p
  refine ⟨?_, ?_⟩
  · show List.set (List.set (List.set σ n none) n (some x)) n none = List.set σ n none
    simp
  · show te (List.set (List.set σ n none) n (some x)) H (KApp D (Pv (i + 1) D))
    exact hs i x D H hi p
end
/-! ### built-ins, by names -/
section
variable {K : PySem.W.Frag} {H : Hp} {Q : VK} {i j : Int} {v : V}
def rInt1 : List V → Hp → VK → Prop := fun xs H Q => (∃ i, xs = [.int i] ∧ Q (.int i) H) ∨ ∃ k, xs = [.bl k] ∧ Q (.int (if k then 1 else 0)) H
def rAbs : List V → Hp → VK → Prop := fun xs H Q => ∃ i, xs = [.int i] ∧ Q (.int (if i < 0 then -i else i)) H
def rMax2 : List V → Hp → VK → Prop := fun xs H Q => ∃ i j, xs = [.int i, .int j] ∧ Q (.int (if j > i then j else i)) H
def rMin2 : List V → Hp → VK → Prop := fun xs H Q => ∃ i j, xs = [.int i, .int j] ∧ Q (.int (if j < i then j else i)) H
def rListOf (K : PySem.W.Frag) : List V → Hp → VK → Prop := fun xs H Q => ∃ p ys, xs = [.ref p] ∧ (SqL K H p ys ∨ SqT K H p ys) ∧ ∀ l, H l = none → Q (.ref l) (upd H l (.lst ys))
def rTupOf (K : PySem.W.Frag) : List V → Hp → VK → Prop := fun xs H Q => ∃ p ys, xs = [.ref p] ∧ ((SqL K H p ys ∧ ∀ l, H l = none → Q (.ref l) (upd H l (.tup ys))) ∨ (SqT K H p ys ∧ Q (.ref p) H))
def rLenS (K : PySem.W.Frag) : List V → Hp → VK → Prop := fun xs H Q => ∃ p ys, xs = [.ref p] ∧ (SqL K H p ys ∨ SqT K H p ys) ∧ Q (.int ys.length) H
def rLenT : List V → Hp → VK → Prop := fun xs H Q => ∃ z, xs = [.str z] ∧ z.length ≤ sizeLine ∧ Q (.int z.length) H
variable {X : Cx}
theorem b_int : CallR X (.type "int") rInt1 := call_int1
theorem b_abs : CallR X (.builtin "abs") rAbs := call_abs
theorem b_max (hc : X.calm = true) : CallR X (.builtin "max") rMax2 := call_max2 hc
theorem b_min (hc : X.calm = true) : CallR X (.builtin "min") rMin2 := call_min2 hc
theorem b_list : CallR X (.type "list") (rListOf X.K) := call_list_of
theorem b_tuple : CallR X (.type "tuple") (rTupOf X.K) := call_tuple_of
theorem b_len : CallR X (.builtin "len") (rLenS X.K) := call_len_seq
theorem b_lenT : CallR X (.builtin "len") rLenT := call_len_str
theorem c_int (q : Q (.int i) H) : CB rInt1 [.int i] H Q := Or.inl ⟨i, rfl, q⟩
theorem c_intB {b : Bool} (q : Q (.int (if b then 1 else 0)) H) : CB rInt1 [.bl b] H Q := Or.inr ⟨b, rfl, q⟩
theorem c_abs (q : Q (.int (if i < 0 then -i else i)) H) : CB rAbs [.int i] H Q := ⟨i, rfl, q⟩
theorem c_max (q : Q (.int (if j > i then j else i)) H) : CB rMax2 [.int i, .int j] H Q := ⟨i, j, rfl, q⟩
theorem c_min (q : Q (.int (if j < i then j else i)) H) : CB rMin2 [.int i, .int j] H Q := ⟨i, j, rfl, q⟩
theorem c_listL {p : Addr} {ys : List V} (h : SqL K H p ys) (q : ∀ l H2, New H H2 l (.lst ys) → Q (.ref l) H2) : CB (rListOf K) [.ref p] H Q := ⟨p, ys, rfl, .inl h, fun l hl => q l _ (New.of hl)⟩
theorem c_listT {p : Addr} {ys : List V} (h : SqT K H p ys) (q : ∀ l H2, New H H2 l (.lst ys) → Q (.ref l) H2) : CB (rListOf K) [.ref p] H Q := ⟨p, ys, rfl, .inr h, fun l hl => q l _ (New.of hl)⟩
theorem c_tupL {p : Addr} {ys : List V} (h : SqL K H p ys) (q : ∀ l H2, New H H2 l (.tup ys) → Q (.ref l) H2) : CB (rTupOf K) [.ref p] H Q := ⟨p, ys, rfl, .inl ⟨h, fun l hl => q l _ (New.of hl)⟩⟩
theorem c_lenL {p : Addr} {ys : List V} (h : SqL K H p ys) (q : Q (.int (ys.length : Int)) H) : CB (rLenS K) [.ref p] H Q := ⟨p, ys, rfl, .inl h, q⟩
theorem c_lenT {p : Addr} {ys : List V} (h : SqT K H p ys) (q : Q (.int (ys.length : Int)) H) : CB (rLenS K) [.ref p] H Q := ⟨p, ys, rfl, .inr h, q⟩
theorem c_lenA {p : Addr} {ys : List V} (h : SqL K H p ys ∨ SqT K H p ys) (q : Q (.int (ys.length : Int)) H) : CB (rLenS K) [.ref p] H Q := ⟨p, ys, rfl, h, q⟩
theorem c_lenS {z : Str} (h : z.length ≤ sizeLine) (q : Q (.int (z.length : Int)) H) : CB rLenT [.str z] H Q := ⟨z, rfl, h, q⟩
end
end Wk
set_option Elab.async false
set_option linter.all false
set_option maxRecDepth 100000
set_option maxHeartbeats 4000000
/-! Wk: small defs without effects, walked in any surroundings (for what a generator expression calls). -/
namespace Wk
open PySem PySem.Spec PyProof.Rows L2
abbrev Pins := List (Addr × Obj)
/-- the frame's names hold vals, what the top left stands, and the pinned objects too -/
structure RS (base : Heap) (env : Env) (vals : List (Str × V)) (G : Pins) (m : Str → Option Value) (s : Shared) : Prop where
  hb : ∀ b o, base.get? b = some o → s.heap.get? b = some o
  hn : s.heap.Ns env.locals m
  hm : ∀ p ∈ vals, ∃ u, m p.1 = some u ∧ RelV p.2 u
  hG : ∀ q ∈ G, s.heap.get? q.1 = some q.2
/-- the expression e gives v and keeps all that stands -/
def RE (prog : Program) (w : World) (base : Heap) (D : Nat) (env : Env) (vals : List (Str × V)) (G : Pins) (e : Expr) (v : V) : Prop :=
  ∀ (A : Around) (E : Value → Shared → Prop) (s : Shared) (m : Str → Option Value), A.handled = none → A.depth ≤ D → RS base env vals G m s → wpAny (model prog w) A (eval e env) (fun y s' => RelV v y ∧ Keeps s s') E s
/-- arguments -/
def RA (prog : Program) (w : World) (base : Heap) (D : Nat) (env : Env) (vals : List (Str × V)) (G : Pins) (es : List Expr) (vs : List V) : Prop :=
  ∀ (pos : Pos) (A : Around) (E : Value → Shared → Prop) (s : Shared) (m : Str → Option Value), A.handled = none → A.depth ≤ D → RS base env vals G m s → wpAny (model prog w) A (spliced (backTo pos (starEach es env))) (fun us s' => Vals vs us ∧ Keeps s s') E s
/-- the def at f hands back v for vs -/
def RF (prog : Program) (w : World) (base : Heap) (D : Nat) (f : Addr) (vs : List V) (G : Pins) (v : V) : Prop :=
  ∀ (A : Around) (s : Shared) (us : List Value), A.handled = none → A.depth ≤ D → (∀ b o, base.get? b = some o → s.heap.get? b = some o) → Vals vs us → (∀ q ∈ G, s.heap.get? q.1 = some q.2) →
    codeAny (model prog w) A (.call (.ref f) ⟨us, []⟩) (fun r s' => ∃ u, r = .ok (.ret u) ∧ RelV v u ∧ Keeps s s') s
/-- what is known of a frame -/
structure RC (scope : Scope) (env : Env) : Prop where
  kind : env.scope.kind = .function
  sc : env.scope = scope
  glob : env.globals = mainGlobals
  blt : env.builtins = builtinsNs
theorem keeps_trans {s s1 s2 : Shared} (a : Keeps s s1) (b : Keeps s1 s2) : Keeps s s2 := by
  obtain ⟨h1, k1, rfl, e1⟩ := a
  obtain ⟨h2, k2, rfl, e2⟩ := b
  exact ⟨h2, k2, rfl, fun b o q => e2 b o (e1 b o q)⟩
theorem keeps_tok (s : Shared) (k : Nat) : Keeps s { s with toks := k } := ⟨s.heap, k, rfl, fun _ _ e => e⟩
theorem keeps_self (s : Shared) : Keeps s s := keeps_tok s s.toks
theorem keeps_get {s s' : Shared} (a : Keeps s s') : ∀ b o, s.heap.get? b = some o → s'.heap.get? b = some o := by
  obtain ⟨h1, k1, rfl, e1⟩ := a
  exact e1
/-- the kind of a value, with what is pinned -/
inductive KV (G : Pins) : V → String → Prop
  | non : KV G .non "NoneType"
  | bl {b} : KV G (.bl b) "bool"
  | int {i} : KV G (.int i) "int"
  | str {z} : KV G (.str z) "str"
  | lst {a o} : (a, o) ∈ G → o.cls = .type "list" → KV G (.ref a) "list"
  | tup {a o} : (a, o) ∈ G → o.cls = .type "tuple" → KV G (.ref a) "tuple"
  | dct {a o} : (a, o) ∈ G → o.cls = .type "dict" → KV G (.ref a) "dict"
section
variable {prog : Program} {w : World} {K : PySem.W.Frag} {mg : Str → Option Value} {base : Heap} {D : Nat} {env : Env} {scope : Scope} {vals : List (Str × V)} {G : Pins} {e e1 e2 e3 : Expr} {es : List Expr} {v : V} {vs : List V} {p p1 p2 pos : Pos}
theorem RS.on {m : Str → Option Value} {s s' : Shared} (r : RS base env vals G m s) (k : Keeps s s') : RS base env vals G m s' :=
  ⟨fun b o q => keeps_get k b o (r.hb b o q), r.hn.keeps (keeps_get k), r.hm, fun q hq => keeps_get k _ _ (r.hG q hq)⟩
theorem re_name {x : Str} (c : RC scope env) (hl : scope.names.lookup x = some .local) (hv : (x, v) ∈ vals) (hd : (x == ("__debug__" : Str)) = false := by decide) : RE prog w base D env vals G (.Name x p) v := by
  intro A E s m hA hD r
  obtain ⟨u, hu, q⟩ := r.hm _ hv
  exact wpAny_Name (wpAny_loadName_local c.kind (show env.scope.names.lookup x = some .local by rw [c.sc]; exact hl) r.hn hu ⟨q, keeps_self _⟩) hd
theorem re_int {i : Int} {j : Nat} : RE prog w base D env vals G (.Constant (.int i) j p) (.int i) := fun A E s m hA hD r => wpAny_Constant_int ⟨⟨_, rfl⟩, keeps_tok _ _⟩
theorem re_str {z : Str} {j : Nat} : RE prog w base D env vals G (.Constant (.str z) j p) (.str z) := fun A E s m hA hD r => Calls.Constant_str ⟨⟨_, rfl⟩, keeps_tok _ _⟩
theorem ld_g {x : Str} {u : Value} {A : Around} {E : Value → Shared → Prop} {s : Shared} {m : Str → Option Value} {Q : Value → Shared → Prop} (M : Mod K mg base) (c : RC scope env) (r : RS base env vals G m s) (hg : scope.names.lookup x = some .globalImplicit) (hm : mg x = some u) (q : Q u s) (hd : (x == ("__debug__" : Str)) = false := by decide) :
    wpAny (model prog w) A (eval (.Name x p) env) Q E s :=
  Calls.Name_function_global c.kind (show env.scope.names.lookup x = some .globalImplicit by rw [c.sc]; exact hg) (Calls.loadGlobal_global (by rw [c.glob]; exact M.glob.keeps r.hb) hm q) hd
theorem ld_b {x : Str} {u : Value} {A : Around} {E : Value → Shared → Prop} {s : Shared} {m : Str → Option Value} {Q : Value → Shared → Prop} (M : Mod K mg base) (c : RC scope env) (r : RS base env vals G m s) (hg : scope.names.lookup x = some .globalImplicit) (hm : mg x = none) (hv : bootBuiltins x = some u) (q : Q u s)
    (hn0 : x ≠ "__name__" := by decide) (hd : (x == ("__debug__" : Str)) = false := by decide) : wpAny (model prog w) A (eval (.Name x p) env) Q E s := by
  obtain ⟨mb, h1, h2⟩ := M.blt
  exact Calls.Name_function_global c.kind (show env.scope.names.lookup x = some .globalImplicit by rw [c.sc]; exact hg) (Calls.loadGlobal_builtin (by rw [c.glob]; exact M.glob.keeps r.hb) hm (by rw [c.blt]; exact h1.keeps r.hb) ((h2 x hn0).trans hv) q) hd
theorem re_glob {x : Str} {u : Value} (M : Mod K mg base) (c : RC scope env) (hg : scope.names.lookup x = some .globalImplicit) (hm : mg x = some u) (q : RelV v u) (hd : (x == ("__debug__" : Str)) = false := by decide) : RE prog w base D env vals G (.Name x p) v :=
  fun A E s m hA hD r => ld_g M c r hg hm ⟨q, keeps_self _⟩ hd
theorem re_blt {x : Str} {u : Value} (M : Mod K mg base) (c : RC scope env) (hg : scope.names.lookup x = some .globalImplicit) (hm : mg x = none) (hv : bootBuiltins x = some u) (q : RelV v u) (hn0 : x ≠ "__name__" := by decide) (hd : (x == ("__debug__" : Str)) = false := by decide) : RE prog w base D env vals G (.Name x p) v :=
  fun A E s m hA hD r => ld_b M c r hg hm hv ⟨q, keeps_self _⟩ hn0 hd
/-- a - b of whole numbers -/
theorem re_sub {i j : Int} (h1 : RE prog w base D env vals G e1 (.int i)) (h2 : RE prog w base D env vals G e2 (.int j)) : RE prog w base D env vals G (.BinOp e1 .Sub e2 p) (.int (i - j)) := by
  intro A E s m hA hD r
  refine wpAny_BinOp (thn (h1 A E s m hA hD r) fun y s1 ⟨r1, k1⟩ => ?_)
  refine thn (h2 A E s1 m hA hD (r.on k1)) fun z s2 ⟨r2, k2⟩ => ?_
  obtain ⟨t, rfl⟩ := r1
  obtain ⟨t', rfl⟩ := r2
  exact sub_int ⟨⟨_, rfl⟩, keeps_trans (keeps_trans k1 k2) (keeps_tok _ _)⟩
/-- a and b, of truth values; a false one ends it -/
theorem re_andF {rest : List Expr} (h1 : RE prog w base D env vals G e1 (.bl false)) : RE prog w base D env vals G (.BoolOp .And (e1 :: e2 :: rest) p) (.bl false) := by
  intro A E s m hA hD r
  refine BoolOp_and (thn (h1 A E s m hA hD r) fun y s1 ⟨r1, k1⟩ => ?_)
  cases r1
  exact wpAny_truthy_bool ⟨rfl, k1⟩
theorem re_andT {b : Bool} (h1 : RE prog w base D env vals G e1 (.bl true)) (h2 : RE prog w base D env vals G e2 (.bl b)) : RE prog w base D env vals G (.BoolOp .And [e1, e2] p) (.bl b) := by
  intro A E s m hA hD r
  refine BoolOp_and (thn (h1 A E s m hA hD r) fun y s1 ⟨r1, k1⟩ => ?_)
  cases r1
  refine wpAny_truthy_bool ?_
  refine BoolOp_one (thn (h2 A E s1 m hA hD (r.on k1)) fun z s2 ⟨r2, k2⟩ => ⟨r2, keeps_trans k1 k2⟩)
theorem re_not {b : Bool} (h1 : RE prog w base D env vals G e1 (.bl b)) : RE prog w base D env vals G (.UnaryOp .Not e1 p) (.bl (!b)) := by
  intro A E s m hA hD r
  refine UnaryOp_ (thn (h1 A E s m hA hD r) fun y s1 ⟨r1, k1⟩ => ?_)
  cases r1
  exact not_of (wpAny_truthy_bool ⟨rfl, k1⟩)
/-- i <= x <= j -/
theorem re_chain {i x j : Int} (h1 : RE prog w base D env vals G e1 (.int i)) (h2 : RE prog w base D env vals G e2 (.int x)) (h3 : RE prog w base D env vals G e3 (.int j)) (hm : lastMarks [.LtE, .LtE] [e2, e3] = false := by with_unfolding_all rfl) :
    RE prog w base D env vals G (.Compare e1 [.LtE, .LtE] [e2, e3] p) (.bl (decide (i ≤ x ∧ x ≤ j))) := by
  intro A E s m hA hD r
  refine Compare_chain (thn (h1 A E s m hA hD r) fun y s1 ⟨r1, k1⟩ => chain_link (thn (h2 A E s1 m hA hD (r.on k1)) fun z s2 ⟨r2, k2⟩ => ?_)) hm
  obtain ⟨t, rfl⟩ := r1
  obtain ⟨t', rfl⟩ := r2
  refine PyProof.Rows.le_int (wpAny_truthy_bool ?_)
  by_cases hi : i ≤ x
  · rw [decide_eq_true hi]
    refine ite_tt (chain_last (thn (h3 A E s2 m hA hD ((r.on k1).on k2)) fun z3 s3 ⟨r3, k3⟩ => ?_))
    obtain ⟨t3, rfl⟩ := r3
    refine PyProof.Rows.le_int ⟨?_, keeps_trans (keeps_trans k1 k2) k3⟩
    show Value.bool _ = Value.bool _
    simp [hi]
  · rw [decide_eq_false hi]
    refine ite_ff ⟨?_, keeps_trans k1 k2⟩
    show Value.bool _ = Value.bool _
    simp [hi]
theorem ra_nil : RA prog w base D env vals G [] [] := fun _ _ _ _ _ _ _ _ => Calls.spliced_nil ⟨.nil, keeps_self _⟩
theorem ra_cons (h1 : RE prog w base D env vals G e v) (h2 : RA prog w base D env vals G es vs) (hs : starEach (e :: es) env = (false, eval e env) :: starEach es env := by rfl) : RA prog w base D env vals G (e :: es) (v :: vs) := by
  intro pos A E s m hA hD r
  rw [hs]
  show wpAny _ _ (spliced ((false, eval e env) :: backTo pos (starEach es env))) _ _ s
  refine Calls.spliced_cons (thn (h1 A E s m hA hD r) fun u s1 ⟨r1, k1⟩ => ?_)
  exact thn (h2 pos A E s1 m hA hD (r.on k1)) fun us s2 ⟨r2, k2⟩ => ⟨.cons r1 r2, keeps_trans k1 k2⟩
/-- f(e, ..), f an own def -/
theorem re_call {x : Str} {f : Addr} (M : Mod K mg base) (c : RC scope env) (hg : scope.names.lookup x = some .globalImplicit) (hm : mg x = some (.ref f)) (hk : PySem.W.keepIn K (.ref f) = true) (F : RF prog w base D f vs G v)
    (ha : RA prog w base D env vals G (e :: es) vs) (hdb : (x == ("__debug__" : Str)) = false := by decide) (he : starEach (e :: es) env = (false, eval e env) :: starEach es env := by rfl) (hpl : (backTo pos (starEach es env)).any (·.1) = false := by rfl) :
    RE prog w base D env vals G (.Call (.Name x p) (e :: es) [] pos) v := by
  intro A E s m hA hD r
  refine wpAny_Call_Name_kw (ld_g M c r hg hm ?_ hdb)
  refine PySem.W.callWith_K (h₀ := base) M.kin hk (thn (ha pos A E s m hA hD r) fun us s1 ⟨r1, k1⟩ => ⟨M.kin.keeps (r.on k1).hb, ?_⟩) he hpl
  refine wpAny_call (codeAny_mono (F A s1 us hA hD (r.on k1).hb r1 (r.on k1).hG) fun r' s' hq => ?_)
  obtain ⟨u, rfl, ru, k⟩ := hq
  exact ⟨ru, keeps_trans k1 k⟩
theorem kv_call {A : Around} {E : Value → Shared → Prop} {s : Shared} {u : Value} {Q : Value → Shared → Prop} {t T : String} {b : Bool} (X : K.In s.heap) (kv : KV G v t) (hG : ∀ q ∈ G, s.heap.get? q.1 = some q.2) (ru : RelV v u) (h : PySem.W.kitOne K (.type t) (.type T) = some b) (q : ∀ tk, Q (.bool b) { s with toks := tk }) :
    wpAny (model prog w) A (call (.builtin "isinstance") [u, .type T]) Q E s := by
  cases kv with
  | non => cases ru; exact PySem.W.kia_one PySem.W.kitx_none X True.intro h (fun z => nomatch z) q
  | bl => cases ru; exact PySem.W.kia_one PySem.W.kitx_bool X True.intro h (fun z => nomatch z) q
  | int => obtain ⟨t, rfl⟩ := ru; exact PySem.W.kia_one PySem.W.kitx_int X True.intro h (fun z => nomatch z) q
  | str => obtain ⟨t, rfl⟩ := ru; exact PySem.W.kia_one PySem.W.kitx_str X True.intro h (fun z => nomatch z) q
  | lst hm hc => cases (show u = Value.ref _ from ru); exact PySem.W.kia_one PySem.W.kitx_list X ⟨_, hG _ hm, hc⟩ h (fun z => nomatch z) q
  | tup hm hc => cases (show u = Value.ref _ from ru); exact PySem.W.kia_one PySem.W.kitx_tuple X ⟨_, hG _ hm, hc⟩ h (fun z => nomatch z) q
  | dct hm hc => cases (show u = Value.ref _ from ru); exact PySem.W.kia_one PySem.W.kitx_dict X ⟨_, hG _ hm, hc⟩ h (fun z => nomatch z) q
/-- isinstance(e, T) -/
theorem re_isi {T : String} {t : String} {b : Bool} (M : Mod K mg base) (c : RC scope env) (hg : scope.names.lookup ("isinstance" : Str) = some NameKind.globalImplicit) (hm : mg "isinstance" = none)
    (h1 : RE prog w base D env vals G e1 v) (h2 : RE prog w base D env vals G e2 (.ty T)) (kv : KV G v t) (h : PySem.W.kitOne K (.type t) (.type T) = some b)
    (he1 : starEach [e1, e2] env = (false, eval e1 env) :: starEach [e2] env := by rfl) (he2 : starEach [e2] env = (false, eval e2 env) :: starEach [] env := by rfl) (hpl : (backTo pos (starEach [e2] env)).any (·.1) = false := by rfl) :
    RE prog w base D env vals G (.Call (.Name "isinstance" p) [e1, e2] [] pos) (.bl b) := by
  intro A E s m hA hD r
  refine wpAny_Call_Name_kw (ld_b M c r hg hm (by rfl) ?_)
  refine PyProof.Rows.callWith_builtin1 ?_ he1 hpl
  refine thn (ra_cons h1 (ra_cons h2 ra_nil he2) he1 pos A E s m hA hD r) fun us s1 ⟨r1, k1⟩ => ?_
  cases r1 with
  | cons ra rr =>
    cases rr with
    | cons rb rn =>
      cases rn
      cases (show _ = Value.type T from rb)
      exact kv_call (M.kin.keeps (r.on k1).hb) kv (r.on k1).hG ra h fun tk => ⟨rfl, keeps_trans k1 (keeps_tok _ _)⟩
/-- a def whose suite is one return -/
theorem rf_of {f : Addr} {fd : FuncData} {x : Str} {params : Arguments} {rp : Pos} {N ps : List Str} (F : FunD K x x params [.Return (some e) rp] scope [] [] f fd) (M : Mod K mg base) (S : FnScope N ps scope) (hloc : ∀ y ∈ ps, scope.names.lookup y = some .local) (hnd : ps.Nodup)
    (hb : ∀ (kV doc pm : Value) (an : Option Addr) (cdv ct : Value) (us : List Value), us.length = ps.length → bindArgs (PySem.W.fnOf x x params [.Return (some e) rp] scope .none kV doc pm an cdv ct) ⟨us, []⟩ = pure (ps.zip us))
    (hl : vs.length = ps.length) (hD : D < recursionLimit) (body : ∀ env : Env, RC scope env → RE prog w base (D + 1) env (ps.zip vs) G e v) : RF prog w base D f vs G v := by
  intro A s us hA hAD hs r hG
  obtain ⟨oc, od, dV, kV, doc, pm, an, cdv, ct, osl, rfl, lk, hcd, hdv, _⟩ := F.ex
  have KX : K.In s.heap := M.kin.keeps hs
  have lim : s.heap.NoLimit := M.nolimit.keeps hs
  have hul : us.length = ps.length := by rw [← r.length]; exact hl
  have hdn : dV = .none := by
    rcases hdv with ⟨_, h⟩ | ⟨h, _⟩
    · exact h
    · exact absurd rfl h
  subst hdn
  refine codeAny_call_function (Nat.lt_of_le_of_lt hAD hD) (KX _ _ lk) rfl S.co S.gen rfl (PySem.W.codeRec_of KX hcd) ?_
  rw [hb _ _ _ _ _ _ us hul]
  refine wpAny_pure ?_
  refine wpAny_newFunctionEnv_cells S.kind (fun ⟨n, v⟩ hy => .inl (hloc n (List.of_mem_zip hy).1)) fun env he s1 x => ?_
  have hk : ∀ b o, s.heap.get? b = some o → s1.heap.get? b = some o := x.toInCall.keep
  refine ⟨lim.keeps hk, codeAny_func ?_⟩
  have hks : Keeps s s1 := by
    obtain ⟨h1, t1, e1⟩ := x.toInCall.same
    exact ⟨h1, t1, e1, by rw [e1] at hk; exact hk⟩
  have hR : RS base env (ps.zip vs) G _ s1 := ⟨fun b o q => hk b o (hs b o q), x.toInCall.ns, fun q hq => ?_, fun q hq => hk _ _ (hG q hq)⟩
  · have cR : RC scope env := by subst he; exact ⟨S.kind, rfl, rfl, rfl⟩
    refine wpAny_execs_cons (wpAny_Return_some (thn (body env cR (A.deeper env) _ s1 _ hA (Nat.succ_le_succ hAD) hR) fun y s' ⟨ry, ky⟩ => ?_))
    exact ⟨y, rfl, ry, keeps_trans hks ky⟩
  · obtain ⟨i, hi, ei⟩ := List.getElem_of_mem hq
    rw [List.getElem_zip] at ei
    subst ei
    have hi1 : i < ps.length := by rw [List.length_zip] at hi; omega
    have hi2 : i < vs.length := by rw [List.length_zip] at hi; omega
    obtain ⟨u, hu, ru⟩ := r.get (List.getElem?_eq_getElem hi2)
    refine ⟨u, bindL_get hnd (List.getElem?_eq_getElem hi1) hu ?_, ru⟩
    subst he
    exact hloc _ (List.getElem_mem hi1)
end
end Wk
set_option Elab.async false
set_option linter.all false
set_option maxRecDepth 100000
set_option maxHeartbeats 4000000
/-! Wk: all(.. for x in xs), xs a list or a tuple of plain values. -/
namespace Wk
open PySem PySem.Spec PyProof.Rows L2
/-- the kind of a plain value -/
inductive KH (K : PySem.W.Frag) (H : Hp) : V → String → Prop
  | non : KH K H .non "NoneType"
  | bl {b} : KH K H (.bl b) "bool"
  | int {i} : KH K H (.int i) "int"
  | str {z} : KH K H (.str z) "str"
  | lst {a xs} : SqL K H a xs → KH K H (.ref a) "list"
  | tup {a xs} : SqT K H a xs → KH K H (.ref a) "tuple"
theorem KV.more {G G' : Pins} {v : V} {t : String} (h : KV G v t) (hs : ∀ q ∈ G, q ∈ G') : KV G' v t := by
  cases h with
  | non => exact .non
  | bl => exact .bl
  | int => exact .int
  | str => exact .str
  | lst h c => exact .lst (hs _ h) c
  | tup h c => exact .tup (hs _ h) c
  | dct h c => exact .dct (hs _ h) c
section
variable {X : Cx} {pins : List (Addr × Obj)} {σ : L2.St} {H : Hp} {s : Shared}
theorem kv_of {P : Addr} {ps : Array Value} {v : V} {t : String} (I : Inv X pins σ H s) (hP : H P = some (.tbl ps)) (h : KH X.K H v t) : ∃ G : Pins, KV G v t ∧ ∀ q ∈ G, s.heap.get? q.1 = some q.2 ∧ q.1 ≠ P := by
  have nP : ∀ {a : Addr} {o : Obj} {its : Array Value} {n : Nat}, s.heap.get? a = some o → o.data = .seq its n → a ≠ P := fun e d z => by
    rw [z, I.hok P _ hP] at e
    cases e
    cases d
  cases h with
  | non => exact ⟨[], .non, by simp⟩
  | bl => exact ⟨[], .bl, by simp⟩
  | int => exact ⟨[], .int, by simp⟩
  | str => exact ⟨[], .str, by simp⟩
  | @lst a xs e =>
    obtain ⟨its, r, hl, hz⟩ := I.list e
    obtain ⟨o, n, e2, hc, _, hd⟩ := _root_.id hl
    exact ⟨[(a, o)], .lst (List.mem_singleton.mpr rfl) hc, fun q hq => by
      cases List.mem_singleton.mp hq
      exact ⟨e2, nP e2 hd⟩⟩
  | @tup a xs e =>
    obtain ⟨its, r, hl, hz⟩ := I.tuple e
    obtain ⟨o, e2, hc, n, hd⟩ := _root_.id hl
    exact ⟨[(a, o)], .tup (List.mem_singleton.mpr rfl) hc, fun q hq => by
      cases List.mem_singleton.mp hq
      exact ⟨e2, nP e2 hd⟩⟩
theorem kvs_of {P : Addr} {ps : Array Value} (I : Inv X pins σ H s) (hP : H P = some (.tbl ps)) : ∀ (xs : List V), (∀ v ∈ xs, ∃ t, KH X.K H v t) → ∃ G : Pins, (∀ v ∈ xs, ∃ t, KV G v t) ∧ ∀ q ∈ G, s.heap.get? q.1 = some q.2 ∧ q.1 ≠ P
  | [], _ => ⟨[], by simp, by simp⟩
  | v :: xs, h => by
    obtain ⟨t, ht⟩ := h v (List.mem_cons_self ..)
    obtain ⟨G1, k1, g1⟩ := kv_of I hP ht
    obtain ⟨G2, k2, g2⟩ := kvs_of I hP xs fun u hu => h u (List.mem_cons_of_mem _ hu)
    refine ⟨G1 ++ G2, fun u hu => ?_, fun q hq => ?_⟩
    · rcases List.mem_cons.mp hu with rfl | hu
      · exact ⟨t, k1.more fun q hq => List.mem_append_left _ hq⟩
      · obtain ⟨t2, h2⟩ := k2 u hu
        exact ⟨t2, h2.more fun q hq => List.mem_append_right _ hq⟩
    · rcases List.mem_append.mp hq with z | z
      · exact g1 q z
      · exact g2 q z
/-- the element's test -/
def trV (pb : V → Bool) (l : List V) (j : Nat) : Bool := match l[j]? with
  | some b => pb b
  | none => false
theorem trV_some {pb : V → Bool} {l : List V} {j : Nat} {b : V} (h : l[j]? = some b) : trV pb l j = pb b := by
  unfold trV
  rw [h]
theorem all_trV (l : List V) (pb : V → Bool) : (List.range l.length).all (trV pb l) = l.all pb := by
  rw [Bool.eq_iff_iff, List.all_eq_true, List.all_eq_true]
  constructor
  · intro h b hb
    obtain ⟨j, hj, e⟩ := List.getElem_of_mem hb
    have q := h j (List.mem_range.mpr hj)
    rw [trV_some (List.getElem?_eq_getElem hj), e] at q
    exact q
  · intro h j hj
    have hj' := List.mem_range.mp hj
    rw [trV_some (List.getElem?_eq_getElem hj')]
    exact h _ (List.getElem_mem hj')
/-- the generator g over xs, ready to be walked, in the state s5; H1: what was held before -/
def ReadyV (X : Cx) (pins : List (Addr × Obj)) (σ : L2.St) (H1 : Hp) (P : Addr) (xs : List V) (pb : V → Bool) (g : Addr) (s5 : Shared) : Prop :=
  ∃ (fp wr : List Addr) (G : Array GenState → Array GenState → Prop) (F : Nat → Value → Prop) (St : Nat → Shared → Prop),
    WalksS X.prog X.w X.A.in1 g fp wr G xs.length F St ∧ St 0 s5 ∧
    TruthOf X.prog X.w X.A.in1 F (trV pb xs) ∧
    ∀ s', Moved wr G s5 s' → ∃ H2, GxR.Tabbed P H1 H2 ∧ Inv X pins σ H2 s'
/-- what is walked: an iterator object o over the items at y -/
structure Itr (X : Cx) (y : Addr) (its : Array Value) (h0 : Heap) (o : Obj) (St0 : Addr → Nat → Heap → Prop) : Prop where
  w : ∀ (I : Addr) (A' : Around), y ≠ I → A'.handled = none → Walks X.prog X.w A' I [I, y] [I] its.size (fun i v => its[i]? = some v) (St0 I)
  st : St0 h0.objs.size 0 (h0.push o)
  lt : y < h0.objs.size
theorem gen_val {c P : Addr} {elt : Expr} {x : Str} {gpos : Pos} {scope : Scope} {pb : V → Bool} {k : Nat} {Q' : Value → Shared → Prop} {y : Addr} {its : List Value} {xs : List V} {o : Obj} {St0 : Addr → Nat → Heap → Prop} {s1 : Shared} {H1 : Hp} {ps : Array Value}
    (hr : Room k X.A) (TB : GxR.TabB X.base X.mg c P) (hcode : X.env.code = .ref c) (S : GxR.GenS X.env scope x)
    (hel : Mod X.K X.mg X.base → ∀ (cenv : Env) (G : Pins) (v : V) (t : String), RC scope cenv → KV G v t → RE X.prog X.w X.base (X.A.depth + 1) cenv [(x, v)] G elt (.bl (pb v)))
    (I1 : Inv X pins σ H1 s1) (hP : H1 P = some (.tbl ps)) (ht : TriplesOk ps.toList) (hxs : ∀ v ∈ xs, ∃ t, KH X.K H1 v t) (rv : Vals xs its) (hyP : y ≠ P) (IT : Itr X y its.toArray s1.heap o St0)
    (hQ : ∀ g s5, ReadyV X pins σ H1 P xs pb g s5 → Q' (.ref g) s5) :
    (s1.heap.push o).NoLimit ∧ wpAny (model X.prog X.w) X.A (genexprCode X.env gpos (X.env.qual ++ "<genexpr>") scope) (fun code s₃ => wpAny (model X.prog X.w) X.A (builtinsFor X.env.globals X.env.builtins) (fun bi s₄ =>
        ∃ Ia fp wr n₀ Pf St₀ pz F, Value.ref s1.heap.objs.size = .ref Ia ∧ (∀ A' : Around, A'.handled = none → Walks X.prog X.w A' Ia fp wr n₀ Pf St₀) ∧ St₀ 0 s₄.heap ∧ (∀ b ∈ fp, b < s₄.heap.objs.size) ∧ s₄.heap.NoLimit ∧ cStatics ∉ wr ∧
          (∀ href : Heap, (∀ b o, s₄.heap.get? b = some o → href.get? b = some o) →
            QuietGenD X.prog X.w (genEnv scope (cloFrom X.env.cells scope.names []) s₄.heap.objs.size code bi X.env) x [] elt (List.range s₄.heap.objs.size) wr Pf pz F href (X.A.depth + 1) (X.A.units + 8)) ∧
          (∀ a h₅ tk gs, gs.bare = true → s₄.heap.objs.size < a → h₅.objs.size = a + 1 → (∀ b o, s₄.heap.get? b = some o → h₅.get? b = some o) →
            WalksS X.prog X.w X.A.in4 a (a :: s₄.heap.objs.size :: List.range s₄.heap.objs.size) (s₄.heap.objs.size :: wr) (GenOnlyQ s₄.gens.size) (passing pz n₀ 0).length
              (fun j y => ∃ i, (passing pz n₀ 0)[j]? = some i ∧ F i y) (GenAt X.prog X.w X.A.in4 a s₄.gens.size s₄.heap.objs.size (List.range s₄.heap.objs.size) wr pz n₀ F) →
            GenAt X.prog X.w X.A.in4 a s₄.gens.size s₄.heap.objs.size (List.range s₄.heap.objs.size) wr pz n₀ F 0 { s₄ with gens := s₄.gens.push gs, toks := tk, heap := h₅ } →
            Q' (.ref a) { s₄ with gens := s₄.gens.push gs, toks := tk, heap := h₅ })) X.xe s₃) X.xe { s1 with heap := s1.heap.push o } := by
  obtain ⟨G, hkv, hG⟩ := kvs_of I1 hP xs hxs
  have hlen : its.length = xs.length := by rw [← rv.length]
  have hat : ∀ (i : Nat) (u : Value), its.toArray[i]? = some u → ∃ v, xs[i]? = some v ∧ RelV v u := fun i u hv => by
    have hv2 : its[i]? = some u := by simpa using hv
    have hi2 : i < its.length := (List.getElem?_eq_some_iff.mp hv2).1
    obtain ⟨a, ha⟩ : ∃ a, xs[i]? = some a := ⟨xs[i]'(by omega), List.getElem?_eq_getElem _⟩
    obtain ⟨u2, hu, ru⟩ := rv.get ha
    rw [hv2] at hu
    cases hu
    exact ⟨a, ha, ru⟩
  have hPs : s1.heap.get? P = some { cls := .none, data := .fields ps } := I1.hok P _ hP
  have hPlt : P < s1.heap.objs.size := Heap.lt_size hPs
  have hP2 : (s1.heap.push o).get? P = some { cls := .none, data := .fields ps } := Heap.get?_push_of_some _ hPs
  have cd : PySem.W.CodeHd (s1.heap.push o) c P := TB.code.keeps fun b u e => Heap.get?_push_of_some _ (I1.bk b u e)
  have lim2 : (s1.heap.push o).NoLimit := I1.nolimit.push o
  have hylt := IT.lt
  have cont : ∀ (code : Value) (h3 : Heap) (tk : Nat) (ps' : Array Value), Heap.ExtBut P (s1.heap.push o) h3 → (s1.heap.push o).objs.size ≤ h3.objs.size → h3.get? P = some { cls := .none, data := .fields ps' } → (∃ more, ps' = ps ++ more) → TriplesOk ps'.toList →
      wpAny (model X.prog X.w) X.A (builtinsFor X.env.globals X.env.builtins) (fun bi s₄ =>
        ∃ Ia fp wr n₀ Pf St₀ pz F, Value.ref s1.heap.objs.size = .ref Ia ∧ (∀ A' : Around, A'.handled = none → Walks X.prog X.w A' Ia fp wr n₀ Pf St₀) ∧ St₀ 0 s₄.heap ∧ (∀ b ∈ fp, b < s₄.heap.objs.size) ∧ s₄.heap.NoLimit ∧ cStatics ∉ wr ∧
          (∀ href : Heap, (∀ b o, s₄.heap.get? b = some o → href.get? b = some o) →
            QuietGenD X.prog X.w (genEnv scope (cloFrom X.env.cells scope.names []) s₄.heap.objs.size code bi X.env) x [] elt (List.range s₄.heap.objs.size) wr Pf pz F href (X.A.depth + 1) (X.A.units + 8)) ∧
          (∀ a h₅ tk gs, gs.bare = true → s₄.heap.objs.size < a → h₅.objs.size = a + 1 → (∀ b o, s₄.heap.get? b = some o → h₅.get? b = some o) →
            WalksS X.prog X.w X.A.in4 a (a :: s₄.heap.objs.size :: List.range s₄.heap.objs.size) (s₄.heap.objs.size :: wr) (GenOnlyQ s₄.gens.size) (passing pz n₀ 0).length
              (fun j y => ∃ i, (passing pz n₀ 0)[j]? = some i ∧ F i y) (GenAt X.prog X.w X.A.in4 a s₄.gens.size s₄.heap.objs.size (List.range s₄.heap.objs.size) wr pz n₀ F) →
            GenAt X.prog X.w X.A.in4 a s₄.gens.size s₄.heap.objs.size (List.range s₄.heap.objs.size) wr pz n₀ F 0 { s₄ with gens := s₄.gens.push gs, toks := tk, heap := h₅ } →
            Q' (.ref a) { s₄ with gens := s₄.gens.push gs, toks := tk, heap := h₅ })) X.xe { s1 with heap := h3, toks := tk } := by
    intro code h3 tk ps' hx hsz hP3 hmore ht3
    obtain ⟨bm, ob, e1, e2, e3, e4, e5, e6, e7, e8⟩ := TB.bm
    have hcP : cStatics ≠ P := fun e => by
      obtain ⟨_, hns, _⟩ := I1.nolimit
      obtain ⟨o', es, ep, ho, hd, _⟩ := hns
      rw [e, hPs] at ho
      cases ho
      cases hd
    have hcl : cStatics < s1.heap.objs.size := let ⟨_, hns, _⟩ := I1.nolimit; hns.lt
    have sz2 : (s1.heap.push o).objs.size = s1.heap.objs.size + 1 := Heap.size_push ..
    have keep3 : ∀ b u, b ≠ P → s1.heap.get? b = some u → h3.get? b = some u := fun b u hb e => hx b u hb (Heap.get?_push_of_some _ e)
    have hbP : ∀ b u, X.base.get? b = some u → b ≠ P := fun b u e z => by
      have e2 := (I1.bs b u e).2
      rw [z, hP] at e2
      cases e2
    refine wpAny_builtinsFor (m := X.mg) (by rw [I1.ok.glob]; exact ((I1.mod.glob.keeps I1.bk).push o).extBut hx TB.gP) e1 e2 (keep3 _ _ e4 (I1.bk _ _ e5)) e6 e7 e8 ?_
    refine ⟨s1.heap.objs.size, [s1.heap.objs.size, y], [s1.heap.objs.size], its.toArray.size, (fun i v => its.toArray[i]? = some v), St0 s1.heap.objs.size, (fun _ => true),
      (fun i z => ∃ v, xs[i]? = some v ∧ z = .bool (pb v)), rfl, (fun A' hA => IT.w _ A' (Nat.ne_of_lt hylt) hA), ?_, ?_, lim2.extBut hx hcP, ?_, ?_, ?_⟩
    · refine (IT.w _ X.A (Nat.ne_of_lt hylt) hr.hd).frame _ _ _ IT.st fun b hb u e => hx b u (fun z => ?_) e
      rcases List.mem_cons.mp hb with z2 | z2
      · exact Nat.ne_of_lt hPlt (z.symm.trans z2)
      · exact hyP ((List.mem_singleton.mp z2).symm.trans z)
    · intro b hb
      rcases List.mem_cons.mp hb with z | z
      · rw [z]
        show s1.heap.objs.size < h3.objs.size
        omega
      · rw [List.mem_singleton.mp z]
        have e9 : s1.heap.objs.size ≤ h3.objs.size := by omega
        exact Nat.lt_of_lt_of_le hylt e9
    · intro z
      rcases List.mem_cons.mp z with z | z
      · exact Nat.ne_of_lt hcl z
      · cases z
    · intro href hhref
      refine ⟨fun A' E' i v s₂ m₂ hA hD hU hPv hn hm hk => ?_, fun A' E' i u s₂ m₂ hA hD hU hPv hp hn hm hk => ?_⟩
      · simp only [List.forIn_nil]
        exact wpAny_pure ⟨rfl, keeps_self _⟩
      · obtain ⟨v, hv, ru⟩ := hat i u hPv
        obtain ⟨t, kv⟩ := hkv v (List.mem_of_getElem? hv)
        have kept : ∀ b q, b ≠ P → s1.heap.get? b = some q → s₂.heap.get? b = some q := fun b q hb e => by
          have hl := Heap.lt_size e
          refine hk b (List.mem_range.mpr (Nat.lt_of_lt_of_le hl (show s1.heap.objs.size ≤ h3.objs.size by omega))) (fun z => ?_) q (hhref b q (keep3 b q hb e))
          rw [List.mem_singleton.mp z] at hl
          exact Nat.lt_irrefl _ hl
        have hR : RS X.base (genEnv scope (cloFrom X.env.cells scope.names []) h3.objs.size code builtinsNs X.env) [(x, v)] G m₂ s₂ :=
          ⟨fun b q e => kept b q (hbP b q e) (I1.bk b q e), hn, fun q hq => by cases List.mem_singleton.mp hq; exact ⟨u, hm, ru⟩, fun q hq => kept q.1 q.2 (hG q hq).2 (hG q hq).1⟩
        refine wpAny_mono (hel I1.mod (genEnv scope (cloFrom X.env.cells scope.names []) h3.objs.size code builtinsNs X.env) G v t ⟨S.kind, rfl, I1.ok.glob, rfl⟩ kv A' E' s₂ m₂ hA hD hR) (fun z s3 r => ⟨⟨v, hv, ?_⟩, r.2⟩) fun _ _ e => e
        exact r.1
    · intro g h5 tk5 gs hgb hag hsz5 hk5 W5 hgat
      simp only [GxR.passing_true, List.length_range] at W5
      have hn5 : its.toArray.size = xs.length := by rw [List.size_toArray, hlen]
      rw [hn5] at W5 hgat
      refine hQ g _ ⟨_, _, _, _, _, W5.in4_1, hgat, ?_, fun s' hm => ?_⟩
      · intro j z sj Qj Ej hy hQj
        obtain ⟨i, hij, v, hv, rfl⟩ := hy
        obtain ⟨hj, ej⟩ := List.getElem?_eq_some_iff.mp hij
        rw [List.getElem_range] at ej
        subst ej
        rw [trV_some hv] at hQj
        exact wpAny_truthy_bool hQj
      · obtain ⟨more, em⟩ := hmore
        have nwr : ∀ b u, s1.heap.get? b = some u → b ∉ h3.objs.size :: [s1.heap.objs.size] := fun b u e hb => by
          have hl := Heap.lt_size e
          rcases List.mem_cons.mp hb with z | z
          · rw [z] at hl
            have h9 : (h3.objs.size : Nat) < s1.heap.objs.size := hl
            omega
          · rcases List.mem_cons.mp z with z | z
            · rw [z] at hl
              exact Nat.lt_irrefl _ hl
            · cases z
        have J := GxR.inv_tab (more := more) (h' := s'.heap) (g' := s'.gens) (d' := s'.drawn) (t' := s'.toks) I1 hP (fun b u hb e => hm.heap b u (nwr b u e) (hk5 b u (keep3 b u hb e)))
          (by rw [← em]; exact hm.heap P _ (nwr P _ hPs) (hk5 P _ hP3)) (AllBare.movedS (I1.bare.push hgb) hm)
        rw [GxR.sh_eta s1 s' hm.os] at J
        refine ⟨upd H1 P (.tbl (ps ++ more)), ⟨⟨ps ++ more, upd_same, by rw [← em]; exact ht3⟩, fun b hb => upd_ne hb⟩, J⟩
  refine ⟨lim2, ?_⟩
  cases hf : codeAmong gpos ps.toList with
  | none =>
    refine wpAny_genexprCodeX hcode (cd.code hP2 ht) (cd.tab hP2) hf fun c' h' tk hx hge hlt hco' _ htab' _ => ?_
    obtain ⟨o1, vs, f1, tf, fl, tg, inF, tx, tt, op, _, _, _, _, _, _, _, _, _, htr, _⟩ := hco'
    exact cont _ h' tk _ hx (Nat.le_trans hge (Nat.le_of_lt hlt)) htab'.2 ⟨_, rfl⟩ htr
  | some cv =>
    refine wpAny_genexprCode_hit hcode (cd.code hP2 ht) hf ?_
    exact cont cv (s1.heap.push o) s1.toks ps (Heap.ExtBut.refl _ _) (Nat.le_refl _) hP2 ⟨#[], by simp⟩ ht
/-- all(test for x in e), e a list or a tuple of plain values; behind it the def's table may have grown -/
def tAllV (K : PySem.W.Frag) (P : Addr) (pb : V → Bool) (te : TE) : TE := fun σ H Q => te σ H fun v H1 => ∃ (y : Addr) (xs : List V), v = .ref y ∧ (SqL K H1 y xs ∨ SqT K H1 y xs) ∧ (∀ v ∈ xs, ∃ t, KH K H1 v t) ∧ GxR.TabG H1 P ∧ ∀ H2, GxR.Tabbed P H1 H2 → Q (.bl (xs.all pb)) H2
theorem pe_allV {c P : Addr} {elt iter : Expr} {x : Str} {px p pos gpos : Pos} {scope : Scope} {pb : V → Bool} {te : TE} {k : Nat}
    (hr : Room k X.A) (hg : Gl X "all") (hm : X.mg "all" = none) (TB : GxR.TabB X.base X.mg c P) (hcode : X.env.code = .ref c) (S : GxR.GenS X.env scope x) (hi : PE X iter te)
    (hel : Mod X.K X.mg X.base → ∀ (cenv : Env) (G : Pins) (v : V) (t : String), RC scope cenv → KV G v t → RE X.prog X.w X.base (X.A.depth + 1) cenv [(x, v)] G elt (.bl (pb v)))
    (hs : ∀ v, genFold iter X.env v = pure v)
    (he : starEach [.GeneratorExp elt [⟨.Name x px, iter, [], 0⟩] scope gpos] X.env = (false, eval (.GeneratorExp elt [⟨.Name x px, iter, [], 0⟩] scope gpos) X.env) :: starEach [] X.env := by rfl) :
    PE X (.Call (.Name "all" p) [.GeneratorExp elt [⟨.Name x px, iter, [], 0⟩] scope gpos] [] pos) (tAllV X.K P pb te) := by
  refine ⟨fun pins s σ H Q I h => ?_⟩
  refine wpAny_Call_Name_kw (ld_blt I hg hm (by rfl) ?_)
  refine PyProof.Rows.callWith_builtin1 ?_ he (by rfl)
  rw [he]
  show wpAny _ _ (spliced ((false, eval (.GeneratorExp elt [⟨.Name x px, iter, [], 0⟩] scope gpos) X.env) :: backTo pos (starEach [] X.env))) _ _ s
  refine Calls.spliced_cons ?_
  refine wpAny_GeneratorExp_walksQD hr.hd S.co (closure_ok S.free) S.cell S.dot S.loc S.kind (by have := hr.dp; omega) ?_ hs
  refine thn (hi.run pins s σ H _ I h) fun xv s1 ⟨v, H1, I1, r1, q1⟩ => ?_
  obtain ⟨y, xs, rfl, hy, hxs, ⟨ps, hP, ht⟩, hR⟩ := q1
  obtain rfl : xv = Value.ref y := r1
  have fin : ∀ g s5, ReadyV X pins σ H1 P xs pb g s5 → (fun u s₁ => wpAny (model X.prog X.w) X.A (spliced (backTo pos (starEach [] X.env))) (fun vs s₁ => wpAny (model X.prog X.w) X.A (call (.builtin "all") (u :: vs)) (EP X pins σ Q) X.xe s₁) X.xe s₁) (.ref g) s5 := fun g s5 hG => by
    obtain ⟨fp, wr, G, F, St, W, hst, htr, hI⟩ := hG
    refine Calls.spliced_nil ?_
    refine call_all_walkS (W.self 0 _ _ _ hst ⟨g, fp, wr, G, _, F, St, _, rfl, W, hst, htr, fun s' hmv => ?_⟩)
    obtain ⟨H2, hT, J⟩ := hI s' hmv
    refine ⟨.bl _, H2, J, rfl, ?_⟩
    rw [all_trV]
    exact hR H2 hT
  rcases hy with hy | hy
  · obtain ⟨its, rv, hl, hz⟩ := I1.list hy
    have hIL := hl.isList
    have hyP : y ≠ P := fun z => by
      obtain ⟨_, e, hc1, _, hd1⟩ := _root_.id hIL
      rw [z, I1.hok P _ hP] at e
      cases e
      cases hd1
    refine wpAny_pyIter_list hIL ?_
    refine gen_val (Q' := fun u s₁ => wpAny (model X.prog X.w) X.A (spliced (backTo pos (starEach [] X.env))) (fun vs s₁ => wpAny (model X.prog X.w) X.A (call (.builtin "all") (u :: vs)) (EP X pins σ Q) X.xe s₁) X.xe s₁) (St0 := fun I i h => h.IsListIter I y i ∧ h.IsList y its.toArray) hr TB hcode S hel I1 hP ht hxs rv hyP ⟨fun I A' hne hA => Walks.list hA I y hne _, ?_, ?_⟩ fin
    · exact ⟨⟨_, Heap.get?_push_size _ rfl, rfl, rfl⟩, by
        obtain ⟨ob, e, r⟩ := _root_.id hIL
        exact ⟨ob, Heap.get?_push_of_some _ e, r⟩⟩
    · obtain ⟨_, e, _⟩ := _root_.id hIL
      exact Heap.lt_size e
  · obtain ⟨its, rv, hl, hz⟩ := I1.tuple hy
    have hIT : s1.heap.IsTuple y its.toArray := hl
    have hyP : y ≠ P := fun z => by
      obtain ⟨_, e, hc1, hd1⟩ := _root_.id hl
      obtain ⟨_, hd1⟩ := hd1
      rw [z, I1.hok P _ hP] at e
      cases e
      cases hd1
    refine wpAny_pyIter_tuple hIT ?_
    refine gen_val (Q' := fun u s₁ => wpAny (model X.prog X.w) X.A (spliced (backTo pos (starEach [] X.env))) (fun vs s₁ => wpAny (model X.prog X.w) X.A (call (.builtin "all") (u :: vs)) (EP X pins σ Q) X.xe s₁) X.xe s₁) (St0 := fun I i h => h.IsTupleIter I y i ∧ h.IsTuple y its.toArray) hr TB hcode S hel I1 hP ht hxs rv hyP ⟨fun I A' hne hA => Walks.tuple hA I y hne _, ?_, ?_⟩ fin
    · exact ⟨⟨_, Heap.get?_push_size _ rfl, rfl, rfl⟩, hIT.at fun o e => Heap.get?_push_of_some _ e⟩
    · obtain ⟨_, e, _⟩ := _root_.id hl
      exact Heap.lt_size e
end
end Wk
set_option Elab.async false
set_option linter.all false
set_option maxRecDepth 100000
set_option maxHeartbeats 4000000
/-! Wk: calls without arguments, by keywords alone; own classes: methods, properties, making. -/
namespace Wk
open PySem PySem.Spec PyProof.Rows L2
/-- a def that is called with n positional values and these keywords -/
structure CalK (P : Program) (w : World) (K : PySem.W.Frag) (mg : Str → Option Value) (base : Heap) (k : Nat) (x : Str) (sp : Sp) (n : Nat) (ks : List Str) (gV : List V → List V → List V) : Prop where
  ex : ∃ (f : Addr) (fd : FuncData) (ps : List Str) (g : List Value → List Value → List Value), FnOk P w K mg base C8.CX0 k f fd ps sp ∧ mg x = some (.ref f) ∧ PySem.W.keepIn K (.ref f) = true ∧ KBn K fd ps n ks g gV
/-- a property of the class at C -/
structure Prp (P : Program) (w : World) (K : PySem.W.Frag) (mg : Str → Option Value) (base : Heap) (k : Nat) (C : Addr) (m : Str) (sp : Sp) : Prop where
  ex : ∃ (p f : Addr) (fd : FuncData) (ps : List Str), Cls K C ∧ PropOf K C m p f ∧ FnOk P w K mg base C8.CX0 k f fd ps sp ∧ Binds K fd ps []
def tCallK (m : Nat) (sp : Sp) (gV : List V → List V → List V) (E : XK) (tk : TA) : TE := fun σ H Q => tk σ H fun zs H2 => zs.length = m ∧ sp (gV [] zs) H2 Q E
section
variable {X : Cx} {j k : Nat} {x m : Str} {sp : Sp} {dvs : List V} {ks : List Str} {gV : List V → List V → List V} {p pos apos : Pos} {kws : List Keyword} {tk : TA} {C : Addr} {o : Expr} {ta : TE}
theorem pe_c0 (c : C8.Cal X.prog X.w X.K X.mg X.base k x sp dvs) (hr : Room j X.A) (hk : k ≤ j) (hg : Gl X x) (hdb : (x == ("__debug__" : Str)) = false := by decide) : PE X (.Call (.Name x p) [] [] pos) (tCall sp dvs C8.E0 tNil) := by
  obtain ⟨f, fd, ps, ds, F, hm, kp, b, d⟩ := c.ex
  exact pe_call0 F (hr.mono hk) hg hm kp b d C8.pass0 hdb
theorem pe_mk0 (c : C8.Mak X.prog X.w X.K X.mg X.base k x C sp dvs) (hr : Room j X.A) (hk : k + 1 ≤ j) (hg : Gl X x) (hdb : (x == ("__debug__" : Str)) = false := by decide) : PE X (.Call (.Name x p) [] [] pos) (tMake C sp dvs C8.E0 tNil) := by
  obtain ⟨f, fd, ps, ds, M, F, hm, b, d⟩ := c.ex
  exact pe_make0 M F (hr.mono hk) hg hm b d C8.pass0 hdb
/-- f(k = v, ..) -/
theorem pe_ck (c : CalK X.prog X.w X.K X.mg X.base k x sp 0 ks gV) (hr : Room j X.A) (hk : k ≤ j) (hg : Gl X x) (hkw : PK X kws tk) (hall : (backToKw pos (keywordEach kws X.env)).all (·.1.isSome) = true := by rfl) (hks : (backToKw pos (keywordEach kws X.env)).filterMap (·.1) = ks := by rfl)
    (hdb : (x == ("__debug__" : Str)) = false := by decide) (hpl : ((backTo pos (starEach [] X.env)).any (·.1) || (backToKw pos (keywordEach kws X.env)).any (·.1.isNone)) = false := by rfl) :
    PE X (.Call (.Name x p) [] kws pos) (tCallK ks.length sp gV C8.E0 tk) := by
  obtain ⟨f, fd, ps, g, F, hm, kp, b⟩ := c.ex
  refine ⟨fun pins s σ H Q I h => ?_⟩
  refine wpAny_Call_Name_kw (ld_glob I hg hm ?_ hdb)
  refine PySem.W.callWith_KW0 (h₀ := X.base) I.ok.mod.kin kp hall ?_ hpl
  refine thn (hkw.run pos pins s σ H _ I h) fun ws s2 ⟨zs, H2, I2, rz, l2, q2⟩ => ⟨I2.kIn, ?_⟩
  rw [hks]
  exact run_fnN F (hr.mono hk) b C8.pass0 I2 .nil rz rfl l2 q2
/-- f(e, .., k = v, ..) -/
theorem pe_ckp {n : Nat} {e : Expr} {es : List Expr} {t : TA} (c : CalK X.prog X.w X.K X.mg X.base k x sp n ks gV) (hr : Room j X.A) (hk : k ≤ j) (hg : Gl X x) (ha : PA X (e :: es) t) (hkw : PK X kws tk) (hall : (backToKw pos (keywordEach kws X.env)).all (·.1.isSome) = true := by rfl) (hks : (backToKw pos (keywordEach kws X.env)).filterMap (·.1) = ks := by rfl)
    (hdb : (x == ("__debug__" : Str)) = false := by decide) (he : starEach (e :: es) X.env = (false, eval e X.env) :: starEach es X.env := by rfl) (hpl : ((backTo pos (starEach (e :: es) X.env)).any (·.1) || (backToKw pos (keywordEach kws X.env)).any (·.1.isNone)) = false := by rfl) :
    PE X (.Call (.Name x p) (e :: es) kws pos) (tCallN n ks.length sp gV C8.E0 t tk) := by
  obtain ⟨f, fd, ps, g, F, hm, kp, b⟩ := c.ex
  exact pe_callN F (hr.mono hk) hg hm kp b C8.pass0 ha hkw hall hks hdb he hpl
/-- e.m, a property -/
theorem pe_pr (c : Prp X.prog X.w X.K X.mg X.base k C m sp) (hr : Room j X.A) (hk : k + 1 ≤ j) (he : PE X o ta) (hab : attributeBase o m X.env (eval o X.env) = eval o X.env := by rfl) : PE X (.Attribute o m pos) (tProp C sp [] C8.E0 ta) := by
  obtain ⟨q, f, fd, ps, hc, hp, F, b⟩ := c.ex
  exact pe_prop he hc hp F (hr.mono hk) b .nil C8.pass0 hab
end
/-! ### steps -/
def KMeth (C : Addr) (m : Str) (sp : Sp) (dvs : List V) (E : XK) (t : TA) (σ : L2.St) (Q : VK) (x : V) (H1 : Hp) : Prop := ∃ a dx fs, x = .ref a ∧ H1 a = some (.ins C dx fs) ∧ fs.lookup m = none ∧ t σ H1 fun vs H2 => sp (x :: (vs ++ dvs)) H2 Q E
def KMake (C : Addr) (sp : Sp) (dvs : List V) (E : XK) (Q : VK) (vs : List V) (H1 : Hp) : Prop := ∀ x dx, H1 x = none → H1 dx = none → dx ≠ x → sp (.ref x :: (vs ++ dvs)) (upd (upd H1 dx (.own x)) x (.ins C dx [])) (fun v H2 => v = .non ∧ Q (.ref x) H2) E
def KProp (C : Addr) (sp : Sp) (E : XK) (Q : VK) (x : V) (H1 : Hp) : Prop := ∃ a dx fs, x = .ref a ∧ H1 a = some (.ins C dx fs) ∧ sp [.ref a] H1 Q E
section
variable {σ : L2.St} {H : Hp} {Q : VK} {C : Addr} {m : Str} {sp : Sp} {dvs : List V} {E : XK} {t : TA} {ta te : TE} {a dx : Addr} {fs : List (Str × V)} {n : Nat} {gV : List V → List V → List V} {D : Ends} {f : Str} {K : PySem.W.Frag} {v : V}
theorem w_meth (h : ta σ H fun x H1 => KMeth C m sp dvs E t σ Q x H1) : tMeth C m sp dvs E ta t σ H Q := h
theorem w_kmeth (ho : H a = some (.ins C dx fs)) (l : fs.lookup m = none) (h : t σ H fun vs H2 => sp (.ref a :: (vs ++ dvs)) H2 Q E) : KMeth C m sp dvs E t σ Q (.ref a) H := ⟨a, dx, fs, rfl, ho, l, h⟩
theorem w_make (h : t σ H fun vs H1 => KMake C sp dvs E Q vs H1) : tMake C sp dvs E t σ H Q := h
theorem w_prop (h : ta σ H fun x H1 => KProp C sp E Q x H1) : tProp C sp [] E ta σ H Q := h
theorem w_kprop (ho : H a = some (.ins C dx fs)) (h : sp [.ref a] H Q E) : KProp C sp E Q (.ref a) H := ⟨a, dx, fs, rfl, ho, h⟩
theorem w_callN {n m : Nat} {tk : TA} (h : t σ H fun vs H1 => tk σ H1 fun zs H2 => vs.length = n ∧ zs.length = m ∧ sp (gV vs zs) H2 Q E) : tCallN n m sp gV E t tk σ H Q := h
theorem w_callK (h : t σ H fun zs H2 => zs.length = n ∧ sp (gV [] zs) H2 Q E) : tCallK n sp gV E t σ H Q := h
end
section
variable {K : PySem.W.Frag}
theorem w_gtup {n : Nat} {t : TGs} {σ : L2.St} {a : Addr} {xs : List V} {H : Hp} {R : L2.St → Hp → Prop} (h : SqT K H a xs) (hn : xs.length = n) (q : t xs σ H R) : gTup K n t (.ref a) σ H R := ⟨a, xs, rfl, h, hn, q⟩
theorem w_gcons {t : TG} {u : TGs} {v : V} {r : List V} {σ : L2.St} {H : Hp} {R : L2.St → Hp → Prop} (q : t v σ H fun σ' H' => u r σ' H' R) : gCons t u (v :: r) σ H R := ⟨v, r, rfl, q⟩
theorem w_gnil {σ : L2.St} {H : Hp} {R : L2.St → Hp → Prop} (q : R σ H) : gNil [] σ H R := ⟨rfl, q⟩
theorem w_gname {n : Nat} {v : V} {σ : L2.St} {H : Hp} {R : L2.St → Hp → Prop} (q : R (σ.set n (some v)) H) : gName n v σ H R := q
def KStar (K : PySem.W.Frag) (t : TA) (σ : L2.St) (Q : List V → Hp → Prop) (x : V) (H1 : Hp) : Prop := ∃ p xs, x = V.ref p ∧ (SqT K H1 p xs ∨ SqL K H1 p xs) ∧ t σ H1 fun ys H2 => Q (xs ++ ys) H2
theorem w_star {te : TE} {t : TA} {σ : L2.St} {H : Hp} {Q : List V → Hp → Prop} (h : te σ H fun x H1 => KStar K t σ Q x H1) : StX.tStar K te t σ H Q := h
theorem w_kstarL {t : TA} {σ : L2.St} {H : Hp} {Q : List V → Hp → Prop} {p : Addr} {xs : List V} (e : SqL K H p xs) (h : t σ H fun ys H2 => Q (xs ++ ys) H2) : KStar K t σ Q (.ref p) H := ⟨p, xs, rfl, .inr e, h⟩
theorem w_kstarT {t : TA} {σ : L2.St} {H : Hp} {Q : List V → Hp → Prop} {p : Addr} {xs : List V} (e : SqT K H p xs) (h : t σ H fun ys H2 => Q (xs ++ ys) H2) : KStar K t σ Q (.ref p) H := ⟨p, xs, rfl, .inl e, h⟩
end
section
variable {K : PySem.W.Frag} {H : Hp} {Q : VK} {x : V}
theorem c_isiT2 {t A B : String} {a b r : Bool} {tp : Addr} (ht : H tp = some (.tup [.ty A, .ty B])) (ty : TyX K H x (.type t)) (ha : kitB t A = some a) (hb : kitB t B = some b) (hr : (a || b) = r) (q : Q (.bl r) H) : CB (rIsiT K) [x, .ref tp] H Q := by
  refine ⟨x, tp, _, .type t, [.type A, .type B], r, rfl, ht, .cons (.ty A) (.cons (.ty B) .nil), ty, ?_, q⟩
  subst hr
  have e1 := kit_ty (K := K) ha
  have e2 := kit_ty (K := K) hb
  cases a <;> cases b <;> simp [PySem.W.kitAny, e1, e2]
theorem w_cat {l b : Addr} {xs zs : List V} (h1 : H l = some (.lst xs)) (h2 : H b = some (.lst zs)) (hz : xs.length + zs.length ≤ sizeLine) (q : ∀ p H2, New H H2 p (.lst (xs ++ zs)) → Q (.ref p) H2) : rCat (.ref l) (.ref b) H Q :=
  ⟨l, b, xs, zs, rfl, rfl, h1, h2, hz, fun p hp => q p _ (New.of hp)⟩
theorem w_rep {l : Addr} {k : Int} {xs : List V} (h1 : H l = some (.lst xs)) (h2 : -(2 ^ 63) ≤ k) (h3 : k < 2 ^ 63) (hz : xs.length * k.toNat ≤ sizeLine) (q : ∀ p H2, New H H2 p (.lst (List.replicate k.toNat xs).flatten) → Q (.ref p) H2) : rRep (.ref l) (.int k) H Q :=
  ⟨l, k, xs, rfl, rfl, h1, h2, h3, hz, fun p hp => q p _ (New.of hp)⟩
def KSFld (K : PySem.W.Frag) (f : Str) (D : Ends) (σ : L2.St) (y x : V) (H2 : Hp) : Prop := ∃ a C dx fs, x = .ref a ∧ H2 a = some (.ins C dx fs) ∧ Cls K C ∧ NoAttr K C f ∧ fs.length < 1000 ∧ D.nx σ (upd H2 a (.ins C dx (putF f y fs)))
theorem w_sfld {ta tv : TE} {f : Str} {D : Ends} {σ : L2.St} (h : tv σ H fun y H1 => ta σ H1 fun x H2 => KSFld K f D σ y x H2) : sFld K ta tv f D σ H := h
theorem w_ksfld {f : Str} {D : Ends} {σ : L2.St} {y : V} {a C dx : Addr} {fs : List (Str × V)} (ho : H a = some (.ins C dx fs)) (c : Cls K C) (n : NoAttr K C f) (hl : fs.length < 1000) (q : ∀ H2, Chg H H2 a (.ins C dx (putF f y fs)) → D.nx σ H2) : KSFld K f D σ y (.ref a) H :=
  ⟨a, C, dx, fs, rfl, ho, c, n, hl, q _ Chg.of⟩
end
section
variable {K : PySem.W.Frag} {H H1 : Hp} {a tP : Addr} {xs : List V}
theorem tab_ne {o : HO} (e : H a = some o) (t : GxR.TabG H tP) (ho : ∀ ps, o ≠ .tbl ps) : a ∉ [tP] := fun z => by
  obtain ⟨ps, h, _⟩ := t
  rw [List.mem_singleton.mp z, h] at e
  exact ho ps (Option.some.inj e).symm
theorem tabT (h : SqT K H a xs) (t : GxR.TabG H tP) (u : Upt [tP] H H1) : SqT K H1 a xs := by
  rcases h with (h | ⟨q, h⟩) | h
  · exact .inl (.inl (u a _ (tab_ne h t fun _ z => by cases z) h))
  · exact .inl (.inr ⟨q, u a _ (tab_ne h t fun _ z => by cases z) h⟩)
  · exact .inr h
theorem tabL (h : SqL K H a xs) (t : GxR.TabG H tP) (u : Upt [tP] H H1) : SqL K H1 a xs := by
  rcases h with (h | ⟨q, h⟩) | h
  · exact .inl (.inl (u a _ (tab_ne h t fun _ z => by cases z) h))
  · exact .inl (.inr ⟨q, u a _ (tab_ne h t fun _ z => by cases z) h⟩)
  · exact .inr h
theorem tabO {o : HO} (e : H a = some o) (ho : ∀ ps, o ≠ .tbl ps) (t : GxR.TabG H tP) (u : Upt [tP] H H1) : H1 a = some o := u a o (tab_ne e t ho) e
theorem tabG {S : List Addr} (t : GxR.TabG H tP) (n : tP ∉ S) (u : Upt S H H1) : GxR.TabG H1 tP := let ⟨ps, e, h⟩ := t; ⟨ps, u tP _ n e, h⟩
end
theorem w_inT {K : PySem.W.Frag} {H : Hp} {Q : VK} {x : V} {p : Addr} {xs : List V} {b : Bool} (h : H p = some (.tup xs)) (fx : flatV x = true) (fs : xs.all flatV = true) (e : inV x xs = b) (q : Q (.bl b) H) : rIn K false x (.ref p) H Q := ⟨p, xs, rfl, .inr (SqT.of h), fx, fs, by subst e; exact q⟩
theorem offT {K : PySem.W.Frag} {H H1 : Hp} {a b : Addr} {xs ys : List V} (h : SqT K H a xs) (e : H b = some (.lst ys)) (u : Upt [b] H H1) : SqT K H1 a xs := by
  rcases h with (h | ⟨q, h⟩) | h
  · exact .inl (.inl (u.at1 (fun z => by rw [z, e] at h; cases h) h))
  · exact .inl (.inr ⟨q, u.at1 (fun z => by rw [z, e] at h; cases h) h⟩)
  · exact .inr h
theorem w_slT {K : PySem.W.Frag} {σ : L2.St} {H : Hp} {Q : VK} {a : Addr} {xs : List V} {n : Nat} {i : Int} (hv : σ[n]? = some (some (.ref a))) (h : SqT K H a xs) (hn : ¬ (HT.sIx xs.length 0 (some i) = 0 ∧ HT.sIx xs.length xs.length none = xs.length)) (q : ∀ p H2, New H H2 p (.tup (cutV xs (some i) none)) → Q (.ref p) H2) :
    tSl (rSlT K) (tVar n) (tPart (tC (.int i))) tNoPart σ H Q := ⟨_, hv, i, rfl, a, xs, rfl, h, hn, fun p hp => q p _ (New.of hp)⟩
theorem Upt.chgNew {H H1 H2 : Hp} {p : Addr} {o : HO} (U : Upt [] H H1) (z : H p = none) (g : Chg H1 H2 p o) : Upt [] H H2 := fun b ob nb e => g.keep.at1 (fun q => by rw [q, z] at e; cases e) (U b ob nb e)
/-! ### methods as they stand -/
def DefM (K : PySem.W.Frag) (x qual : Str) (st : Stmt) (dvs : List V) (f : Addr) (fd : FuncData) : Prop := FunD K x qual (defArgs st) (defBody st) (defScope st) dvs [] f fd
def MetAt (K : PySem.W.Frag) (C : Addr) (x qual : Str) (st : Stmt) : Prop := ∃ f fd, DefM K x qual st [] f fd ∧ Cls K C ∧ Meth K C x f
def PrpAt (K : PySem.W.Frag) (C : Addr) (x qual : Str) (st : Stmt) : Prop := ∃ p f fd, DefM K x qual st [] f fd ∧ Cls K C ∧ PropOf K C x p f
section
variable {P : Program} {w : World} {K : PySem.W.Frag} {mg : Str → Option Value} {base : Heap}
theorem mkM {C : Addr} {x qual : Str} {st : Stmt} {N ps : List Str} {k : Nat} {sp : Sp} (d : MetAt K C x qual st) (S : FnScope N ps (defScope st))
    (hb : ∀ (kV doc pm : Value) (an : Option Addr) (cdv ct : Value) (us : List Value), us.length = ps.length → bindArgs (PySem.W.fnOf x qual (defArgs st) (defBody st) (defScope st) .none kV doc pm an cdv ct) ⟨us, []⟩ = pure (ps.zip us))
    (len : ∀ vs H Q E, sp vs H Q E → vs.length = ps.length)
    (body : ∀ (f : Addr) (cdv : Value) (A : Around) (outer : List Env) (s : Shared) (H : Hp) (vs : List V) (Q : VK) (E : XK), Room k (A.deeper (envOfC qual (defScope st) s.heap.objs.size f cdv)) → sp vs H Q E →
      ∃ t, PSs (cxOf C8.CX0 P w K mg base N qual (defScope st) f cdv A outer s H E).nox (defBody st) t ∧ t { nx := fun _ H' => Q .non H', rt := Q } (start N vs) H) : C8.Met P w K mg base (k + 1) C x sp [] := by
  obtain ⟨f, fd, F, hc, hm⟩ := d
  have F : FunD K x qual (defArgs st) (defBody st) (defScope st) [] [] f fd := F
  exact ⟨f, fd, ps, [], hc, hm, F.ok S len (fun cdv A outer s H vs Q E hr hsp => let ⟨t, h, q⟩ := body f cdv A outer s H vs Q E hr hsp; ⟨t, h.nox, q⟩), F.bindsN hb, .nil⟩
theorem mkP {C : Addr} {x qual : Str} {st : Stmt} {N ps : List Str} {k : Nat} {sp : Sp} (d : PrpAt K C x qual st) (S : FnScope N ps (defScope st))
    (hb : ∀ (kV doc pm : Value) (an : Option Addr) (cdv ct : Value) (us : List Value), us.length = ps.length → bindArgs (PySem.W.fnOf x qual (defArgs st) (defBody st) (defScope st) .none kV doc pm an cdv ct) ⟨us, []⟩ = pure (ps.zip us))
    (len : ∀ vs H Q E, sp vs H Q E → vs.length = ps.length)
    (body : ∀ (f : Addr) (cdv : Value) (A : Around) (outer : List Env) (s : Shared) (H : Hp) (vs : List V) (Q : VK) (E : XK), Room k (A.deeper (envOfC qual (defScope st) s.heap.objs.size f cdv)) → sp vs H Q E →
      ∃ t, PSs (cxOf C8.CX0 P w K mg base N qual (defScope st) f cdv A outer s H E).nox (defBody st) t ∧ t { nx := fun _ H' => Q .non H', rt := Q } (start N vs) H) : Prp P w K mg base (k + 1) C x sp := by
  obtain ⟨p, f, fd, F, hc, hm⟩ := d
  have F : FunD K x qual (defArgs st) (defBody st) (defScope st) [] [] f fd := F
  exact ⟨p, f, fd, ps, hc, hm, F.ok S len (fun cdv A outer s H vs Q E hr hsp => let ⟨t, h, q⟩ := body f cdv A outer s H vs Q E hr hsp; ⟨t, h.nox, q⟩), F.bindsN hb⟩
/-- called by keywords alone -/
theorem mkK {x : Str} {st : Stmt} {N ps ks : List Str} {k : Nat} {sp : Sp} {f : Addr} {fd : FuncData} (F : FunD K x x (defArgs st) (defBody st) (defScope st) [] [] f fd) (hm : mg x = some (.ref f)) (S : FnScope N ps (defScope st)) (g : {α : Type} → List α → List α)
    (hrel : ∀ {zs : List V} {ws : List Value}, Vals zs ws → Vals (g zs) (g ws))
    (hb : ∀ (kV doc pm : Value) (an : Option Addr) (cdv ct : Value) (ws : List Value), ws.length = ks.length → bindArgs (PySem.W.fnOf x x (defArgs st) (defBody st) (defScope st) .none kV doc pm an cdv ct) ⟨[], ks.zip ws⟩ = pure (ps.zip (g ws)))
    (len : ∀ vs H Q E, sp vs H Q E → vs.length = ps.length)
    (body : ∀ (f : Addr) (cdv : Value) (A : Around) (outer : List Env) (s : Shared) (H : Hp) (vs : List V) (Q : VK) (E : XK), Room k (A.deeper (envOfC x (defScope st) s.heap.objs.size f cdv)) → sp vs H Q E →
      ∃ t, PSs (cxOf C8.CX0 P w K mg base N x (defScope st) f cdv A outer s H E).nox (defBody st) t ∧ t { nx := fun _ H' => Q .non H', rt := Q } (start N vs) H) : CalK P w K mg base (k + 1) x sp 0 ks (fun _ zs => g zs) := by
  refine ⟨f, fd, ps, fun _ ws => g ws, F.ok S len (fun cdv A outer s H vs Q E hr hsp => let ⟨t, h, q⟩ := body f cdv A outer s H vs Q E hr hsp; ⟨t, h.nox, q⟩), hm, F.kp, fun s us ws _ l1 l2 => ?_, fun _ r => hrel r⟩
  cases us with
  | nil =>
    obtain ⟨oc, od, dV, kV, doc, pm, an, cdv, ct, osl, rfl, lk, hcd, hD, hK⟩ := F.ex
    rcases hD with ⟨_, rfl⟩ | ⟨e, _⟩
    · exact .of_eq (hb kV doc pm an cdv ct ws l2)
    · exact absurd rfl e
  | cons _ _ => cases l1
/-- a def with keyword-only parameters, under its name -/
def DefKw (K : PySem.W.Frag) (mg : Str → Option Value) (x : Str) (st : Stmt) (kwd : List (Str × V)) : Prop := ∃ (f : Addr) (fd : FuncData), FunD K x x (defArgs st) (defBody st) (defScope st) [] kwd f fd ∧ mg x = some (.ref f)
/-- called by positional values and all keyword-only ones -/
theorem mkKp {x : Str} {st : Stmt} {N ps ks : List Str} {kwd : List (Str × V)} {k n : Nat} {sp : Sp} (d : DefKw K mg x st kwd) (S : FnScope N ps (defScope st))
    (hb : ∀ (kV doc pm : Value) (an : Option Addr) (cdv ct : Value) (us ws : List Value), us.length = n → ws.length = ks.length → bindArgs (PySem.W.fnOf x x (defArgs st) (defBody st) (defScope st) .none kV doc pm an cdv ct) ⟨us, ks.zip ws⟩ = pure (ps.zip (us ++ ws)))
    (len : ∀ vs H Q E, sp vs H Q E → vs.length = ps.length)
    (body : ∀ (f : Addr) (cdv : Value) (A : Around) (outer : List Env) (s : Shared) (H : Hp) (vs : List V) (Q : VK) (E : XK), Room k (A.deeper (envOfC x (defScope st) s.heap.objs.size f cdv)) → sp vs H Q E →
      ∃ t, PSs (cxOf C8.CX0 P w K mg base N x (defScope st) f cdv A outer s H E).nox (defBody st) t ∧ t { nx := fun _ H' => Q .non H', rt := Q } (start N vs) H) : CalK P w K mg base (k + 1) x sp n ks (fun vs zs => vs ++ zs) := by
  obtain ⟨f, fd, F, hm⟩ := d
  refine ⟨f, fd, ps, fun us ws => us ++ ws, F.ok S len (fun cdv A outer s H vs Q E hr hsp => let ⟨t, h, q⟩ := body f cdv A outer s H vs Q E hr hsp; ⟨t, h.nox, q⟩), hm, F.kp, fun s us ws _ l1 l2 => ?_, fun r1 r2 => r1.append r2⟩
  obtain ⟨oc, od, dV, kV, doc, pm, an, cdv, ct, osl, rfl, lk, hcd, hD, hK⟩ := F.ex
  rcases hD with ⟨_, rfl⟩ | ⟨e, _⟩
  · exact .of_eq (hb kV doc pm an cdv ct us ws l1 l2)
  · exact absurd rfl e
/-- __init__ with defaults -/
theorem mkI {C f : Addr} {fd : FuncData} {x qual : Str} {st : Stmt} {N ps : List Str} {k : Nat} {sp : Sp} {dvs dvs' : List V} (F : DefM K "__init__" qual st dvs f fd) (M : Mk K C f) (hm : mg x = some (.ref C)) (S : FnScope N ps (defScope st))
    (hb : ∃ ds, Vals dvs' ds ∧ Binds K fd ps ds) (len : ∀ vs H Q E, sp vs H Q E → vs.length = ps.length)
    (body : ∀ (f : Addr) (cdv : Value) (A : Around) (outer : List Env) (s : Shared) (H : Hp) (vs : List V) (Q : VK) (E : XK), Room k (A.deeper (envOfC qual (defScope st) s.heap.objs.size f cdv)) → sp vs H Q E →
      ∃ t, PSs (cxOf C8.CX0 P w K mg base N qual (defScope st) f cdv A outer s H E).nox (defBody st) t ∧ t { nx := fun _ H' => Q .non H', rt := Q } (start N vs) H) : C8.Mak P w K mg base (k + 1) x C sp dvs' := by
  obtain ⟨ds, r, b⟩ := hb
  have F : FunD K "__init__" qual (defArgs st) (defBody st) (defScope st) dvs [] f fd := F
  exact ⟨f, fd, ps, ds, M, F.ok S len (fun cdv A outer s H vs Q E hr hsp => let ⟨t, h, q⟩ := body f cdv A outer s H vs Q E hr hsp; ⟨t, h.nox, q⟩), hm, b, r⟩
end
end Wk
set_option Elab.async false
set_option linter.all false
set_option maxRecDepth 100000
set_option maxHeartbeats 4000000
/-! Wk: a ledger of the heap's cells, and steps that keep it. -/
namespace Wk
open PySem PySem.Spec PyProof.Rows L2
/-- an address, and what is known of the object that stands there -/
abbrev Cell := Addr × (HO → Prop)
/-- the cells of L stand in H, each at an address of its own -/
structure Hd (H : Hp) (L : List Cell) : Prop where
  nd : (L.map Prod.fst).Nodup
  at_ : ∀ c ∈ L, ∃ o, H c.1 = some o ∧ c.2 o
def lstC (a : Addr) (xs : List V) : Cell := (a, fun o => o = .lst xs)
def tupC (a : Addr) (xs : List V) : Cell := (a, fun o => o = .tup xs)
def frzC (a : Addr) (xs : List V) : Cell := (a, fun o => ∃ q, o = .frz q (.lst xs))
def dctC (a : Addr) (kvs : List (Key × V)) : Cell := (a, fun o => o = .dK kvs)
def insC (a C : Addr) (fs : List (Str × V)) : Cell := (a, fun o => ∃ dx, o = .ins C dx fs)
def tblC (a : Addr) : Cell := (a, fun o => ∃ ps, o = .tbl ps ∧ TriplesOk ps.toList)
/-- L is c and M, in some order -/
inductive Pk : List Cell → Cell → List Cell → Prop
  | here {c : Cell} {L : List Cell} : Pk (c :: L) c L
  | there {x c : Cell} {L M : List Cell} : Pk L c M → Pk (x :: L) c (x :: M)
  | app {c : Cell} {Z L M : List Cell} : Pk L c M → Pk (Z ++ L) c (Z ++ M)
/-- L is the block Z and M -/
inductive PkB : List Cell → List Cell → List Cell → Prop
  | here {Z L : List Cell} : PkB (Z ++ L) Z L
  | there {x : Cell} {Z L M : List Cell} : PkB L Z M → PkB (x :: L) Z (x :: M)
  | app {Y Z L M : List Cell} : PkB L Z M → PkB (Y ++ L) Z (Y ++ M)
/-- L is A and R -/
inductive Spl : List Cell → List Cell → List Cell → Prop
  | nil {L : List Cell} : Spl L [] L
  | cons {c : Cell} {L M A R : List Cell} : Pk L c M → Spl M A R → Spl L (c :: A) R
  | blk {L M Z A R : List Cell} : PkB L Z M → Spl M A R → Spl L (Z ++ A) R
/-- A is some of L -/
inductive Sb : List Cell → List Cell → Prop
  | refl {L : List Cell} : Sb L L
  | nil {L : List Cell} : Sb [] L
  | cons {c : Cell} {L M A : List Cell} : Pk L c M → Sb A M → Sb (c :: A) L
  | drop {x : Cell} {A L : List Cell} : Sb A L → Sb A (x :: L)
  | blk {L M Z A : List Cell} : PkB L Z M → Sb A M → Sb (Z ++ A) L
  | left {Z L : List Cell} : Sb Z (Z ++ L)
  | right {A Z L : List Cell} : Sb A L → Sb A (Z ++ L)
theorem Pk.perm {L M : List Cell} {c : Cell} (h : Pk L c M) : L.Perm (c :: M) := by
  induction h with
  | here => exact .refl _
  | there _ ih => exact (List.Perm.cons _ ih).trans (List.Perm.swap _ _ _)
  | app _ ih => exact (List.Perm.append_left _ ih).trans List.perm_middle
theorem PkB.perm {L Z M : List Cell} (h : PkB L Z M) : L.Perm (Z ++ M) := by
  induction h with
  | here => exact .refl _
  | there _ ih => exact (List.Perm.cons _ ih).trans List.perm_middle.symm
  | @app Y Z L M _ ih => exact (List.Perm.append_left _ ih).trans (by rw [← List.append_assoc, ← List.append_assoc]; exact List.Perm.append_right _ List.perm_append_comm)
theorem Spl.perm {L A R : List Cell} (h : Spl L A R) : L.Perm (A ++ R) := by
  induction h with
  | nil => exact .refl _
  | cons p _ ih => exact p.perm.trans (List.Perm.cons _ ih)
  | blk p _ ih => exact p.perm.trans (by rw [List.append_assoc]; exact List.Perm.append_left _ ih)
theorem Hd.perm {H : Hp} {L M : List Cell} (h : Hd H L) (p : L.Perm M) : Hd H M := ⟨(p.map Prod.fst).nodup_iff.mp h.nd, fun c hc => h.at_ c (p.mem_iff.mpr hc)⟩
theorem Hd.tail {H : Hp} {c : Cell} {L : List Cell} (h : Hd H (c :: L)) : Hd H L := ⟨(List.nodup_cons.mp h.nd).2, fun d hd => h.at_ d (List.mem_cons_of_mem _ hd)⟩
theorem Hd.app {H : Hp} {A R : List Cell} (h : Hd H (A ++ R)) : Hd H R := by
  induction A with
  | nil => exact h
  | cons c A ih => exact ih h.tail
theorem Hd.left {H : Hp} {A R : List Cell} (h : Hd H (A ++ R)) : Hd H A := (h.perm List.perm_append_comm).app
theorem Hd.pk {H : Hp} {L M : List Cell} {c : Cell} (h : Hd H L) (p : Pk L c M) : Hd H (c :: M) := h.perm p.perm
theorem Hd.spl {H : Hp} {L A R : List Cell} (h : Hd H L) (p : Spl L A R) : Hd H (A ++ R) := h.perm p.perm
theorem Hd.sb {H : Hp} {L A : List Cell} (h : Hd H L) (s : Sb A L) : Hd H A := by
  have key : ∀ {A L : List Cell}, Sb A L → ∃ R, L.Perm (A ++ R) := by
    intro A L s
    induction s with
    | refl => exact ⟨[], by simp⟩
    | nil => exact ⟨_, List.Perm.refl _⟩
    | cons p _ ih => obtain ⟨R, q⟩ := ih; exact ⟨R, p.perm.trans (List.Perm.cons _ q)⟩
    | @drop x A L _ ih => obtain ⟨R, q⟩ := ih; exact ⟨x :: R, (List.Perm.cons x q).trans List.perm_middle.symm⟩
    | blk p _ ih => obtain ⟨R, q⟩ := ih; exact ⟨R, p.perm.trans (by rw [List.append_assoc]; exact List.Perm.append_left _ q)⟩
    | left => exact ⟨_, List.Perm.refl _⟩
    | @right A Z L _ ih => obtain ⟨R, q⟩ := ih; exact ⟨Z ++ R, (List.Perm.append_left Z q).trans (by rw [← List.append_assoc, ← List.append_assoc]; exact List.Perm.append_right _ List.perm_append_comm)⟩
  obtain ⟨R, q⟩ := key s
  exact (h.perm q).left
theorem Hd.get {H : Hp} {L : List Cell} {c : Cell} (h : Hd H L) (m : c ∈ L) : ∃ o, H c.1 = some o ∧ c.2 o := h.at_ c m
section
variable {H H2 : Hp} {L M : List Cell} {K : PySem.W.Frag} {a b C : Addr} {xs ys : List V} {fs : List (Str × V)} {kvs : List (Key × V)} {o : HO}
theorem Hd.lst (h : Hd H L) (m : lstC a xs ∈ L) : H a = some (.lst xs) := by obtain ⟨o, e, q⟩ := h.at_ _ m; cases (show o = .lst xs from q); exact e
theorem Hd.tup (h : Hd H L) (m : tupC a xs ∈ L) : H a = some (.tup xs) := by obtain ⟨o, e, q⟩ := h.at_ _ m; cases (show o = .tup xs from q); exact e
theorem Hd.dct (h : Hd H L) (m : dctC a kvs ∈ L) : H a = some (.dK kvs) := by obtain ⟨o, e, q⟩ := h.at_ _ m; cases (show o = .dK kvs from q); exact e
theorem Hd.ins (h : Hd H L) (m : insC a C fs ∈ L) : ∃ dx, H a = some (.ins C dx fs) := by obtain ⟨o, e, dx, q⟩ := h.at_ _ m; subst q; exact ⟨dx, e⟩
theorem Hd.sqL (h : Hd H L) (m : lstC a xs ∈ L) : SqL K H a xs := SqL.of (h.lst m)
theorem Hd.sqF (h : Hd H L) (m : frzC a xs ∈ L) : SqL K H a xs := by obtain ⟨o, e, q, z⟩ := h.at_ _ m; subst z; exact .inl (.inr ⟨q, e⟩)
theorem Hd.sqT (h : Hd H L) (m : tupC a xs ∈ L) : SqT K H a xs := SqT.of (h.tup m)
theorem Hd.tbl (h : Hd H L) (m : tblC a ∈ L) : GxR.TabG H a := by obtain ⟨o, e, ps, q, t⟩ := h.at_ _ m; subst q; exact ⟨ps, e, t⟩
theorem Hd.ne {c d : Cell} (h : Hd H (c :: L)) (m : d ∈ L) : d.1 ≠ c.1 := fun e => (List.nodup_cons.mp h.nd).1 (e ▸ List.mem_map_of_mem m)
theorem Hd.new {P : HO → Prop} {p : Addr} (h : Hd H L) (n : New H H2 p o) (q : P o) : Hd H2 ((p, P) :: L) := by
  refine ⟨List.nodup_cons.mpr ⟨fun z => ?_, h.nd⟩, fun c hc => ?_⟩
  · obtain ⟨c, hc, e⟩ := List.mem_map.mp z
    obtain ⟨u, hu, _⟩ := h.at_ c hc
    rw [e, n.no] at hu
    cases hu
  · rcases List.mem_cons.mp hc with rfl | hc
    · exact ⟨o, n.at_, q⟩
    · obtain ⟨u, hu, z⟩ := h.at_ c hc
      exact ⟨u, n.keep.at0 hu, z⟩
theorem Hd.newL {p : Addr} (h : Hd H L) (n : New H H2 p (.lst xs)) : Hd H2 (lstC p xs :: L) := h.new n rfl
theorem Hd.newT {p : Addr} (h : Hd H L) (n : New H H2 p (.tup xs)) : Hd H2 (tupC p xs :: L) := h.new n rfl
theorem Hd.newD {p : Addr} (h : Hd H L) (n : New H H2 p (.dK kvs)) : Hd H2 (dctC p kvs :: L) := h.new n rfl
/-- what a change of the cells S leaves of L -/
theorem Hd.upt {S : List Addr} (h : Hd H L) (u : Upt S H H2) (hs : ∀ c ∈ L, c.1 ∉ S) : Hd H2 L := ⟨h.nd, fun c hc => let ⟨o, e, q⟩ := h.at_ c hc; ⟨o, u _ _ (hs c hc) e, q⟩⟩
theorem Hd.upt0 (h : Hd H L) (u : Upt [] H H2) : Hd H2 L := h.upt u fun _ _ => by simp
theorem Hd.chg {c c' : Cell} (h : Hd H L) (p : Pk L c M) (g : Chg H H2 c.1 o) (e : c'.1 = c.1) (q : c'.2 o) : Hd H2 (c' :: M) := by
  have h1 := h.pk p
  have nd := List.nodup_cons.mp h1.nd
  refine ⟨List.nodup_cons.mpr ⟨by rw [e]; exact nd.1, nd.2⟩, fun d hd => ?_⟩
  rcases List.mem_cons.mp hd with rfl | hd
  · exact ⟨o, by rw [e]; exact g.at_, q⟩
  · obtain ⟨u, hu, z⟩ := h1.at_ d (List.mem_cons_of_mem _ hd)
    exact ⟨u, g.keep.at1 (h1.ne hd) hu, z⟩
theorem Hd.chgL (h : Hd H L) (p : Pk L (lstC a xs) M) (g : Chg H H2 a (.lst ys)) : Hd H2 (lstC a ys :: M) := h.chg (c := lstC a xs) p g rfl rfl
theorem Hd.chgD {kvs' : List (Key × V)} (h : Hd H L) (p : Pk L (dctC a kvs) M) (g : Chg H H2 a (.dK kvs')) : Hd H2 (dctC a kvs' :: M) := h.chg (c := dctC a kvs) p g rfl rfl
theorem Hd.chgI {dx : Addr} {fs' : List (Str × V)} (h : Hd H L) (p : Pk L (insC a C fs) M) (g : Chg H H2 a (.ins C dx fs')) : Hd H2 (insC a C fs' :: M) := h.chg (c := insC a C fs) p g rfl ⟨dx, rfl⟩
/-- cells that change by a contract over addresses -/
theorem Hd.put {S : List Addr} {A B R : List Cell} (h : Hd H (A ++ R)) (u : Upt S H H2) (hs : ∀ a ∈ S, a ∈ A.map Prod.fst) (hB : Hd H2 B) (hk : ∀ c ∈ B, c.1 ∈ A.map Prod.fst ∨ H c.1 = none) : Hd H2 (B ++ R) := by
  have hd : ∀ c ∈ R, c.1 ∉ A.map Prod.fst := fun c hc z => by
    have nd := h.nd
    rw [List.map_append] at nd
    exact (List.nodup_append.mp nd).2.2 _ z _ (List.mem_map_of_mem hc) rfl
  have hR : Hd H2 R := h.app.upt u fun c hc z => hd c hc (hs _ z)
  refine ⟨?_, fun c hc => (List.mem_append.mp hc).elim (hB.at_ c) (hR.at_ c)⟩
  rw [List.map_append]
  refine List.nodup_append.mpr ⟨hB.nd, hR.nd, fun x hx y hy e => ?_⟩
  subst e
  obtain ⟨c, hc, rfl⟩ := List.mem_map.mp hx
  obtain ⟨d, hdm, e⟩ := List.mem_map.mp hy
  rcases hk c hc with z | z
  · exact hd d hdm (e ▸ z)
  · obtain ⟨o, ho, _⟩ := h.app.at_ d hdm
    rw [e, z] at ho
    cases ho
theorem Hd.one {c : Cell} {o : HO} (e : H c.1 = some o) (q : c.2 o) : Hd H [c] := ⟨by simp, fun d hd => by rw [List.mem_singleton.mp hd]; exact ⟨o, e, q⟩⟩
theorem Hd.two {c d : Cell} {o u : HO} (e : H c.1 = some o) (q : c.2 o) (e' : H d.1 = some u) (q' : d.2 u) (n : c.1 ≠ d.1) : Hd H [c, d] := by
  refine ⟨by simp [n], fun x hx => ?_⟩
  rcases List.mem_cons.mp hx with rfl | hx
  · exact ⟨o, e, q⟩
  · rw [List.mem_singleton.mp hx]; exact ⟨u, e', q'⟩
/-- data -/
theorem Dn.lt {n : Nat} {ds : List PyData} (h : Hd H L) (m : lstC a xs ∈ L) (hl : xs.length ≤ 100000) (p : Paired (Dn K [] H n) xs ds) : Dn K [] H (n + 1) (.ref a) (.list ds) := Dn.lst (h.sqL m) (by simp) hl p
theorem Dn.tp {n : Nat} {ds : List PyData} (h : Hd H L) (m : tupC a xs ∈ L) (hl : xs.length ≤ 100000) (p : Paired (Dn K [] H n) xs ds) : Dn K [] H (n + 1) (.ref a) (.tuple ds) := Dn.tup (h.sqT m) (by simp) hl p
end
/-! ### steps -/
section
variable {K : PySem.W.Frag} {σ : L2.St} {H : Hp} {Q : VK} {L M : List Cell} {P : Hp → Prop} {D : Ends} {a b p C : Addr} {xs ys : List V} {i : Int} {n : Nat} {v x y : V} {f : Str} {fs : List (Str × V)} {kvs : List (Key × V)} {E : XK} {sp : Sp} {dvs : List V}
theorem g_lst (hh : Hd H L) (hs : n ≤ sizeLine) (q : ∀ p H2, Hd H2 (lstC p xs :: L) → Q (.ref p) H2) : KNew n H (.lst xs) Q := w_new hs fun p H2 n2 => q p H2 (hh.newL n2)
theorem g_tup (hh : Hd H L) (hs : n ≤ sizeLine) (q : ∀ p H2, Hd H2 (tupC p xs :: L) → Q (.ref p) H2) : KNew n H (.tup xs) Q := w_new hs fun p H2 n2 => q p H2 (hh.newT n2)
theorem g_dict (hh : Hd H L) (q : ∀ p H2, Hd H2 (dctC p [] :: L) → Q (.ref p) H2) : tDNewK σ H Q := w_dnew fun p H2 n2 => q p H2 (hh.newD n2)
theorem g_set (hh : Hd H L) (k : Pk L (lstC p xs) M) (hn : ixN xs.length i = some n) (q : ∀ H2, Hd H2 (lstC p (xs.set n v) :: M) → P H2) : rSetL (.ref p) (.int i) v H P := w_setI ((hh.pk k).lst (List.mem_cons_self ..)) hn fun H2 g => q H2 (hh.chgL k g)
theorem g_append (hh : Hd H L) (k : Pk L (lstC p xs) M) (hz : xs.length < sizeLine) (q : ∀ H2, Hd H2 (lstC p (xs ++ [y]) :: M) → Q .non H2) : KBM K "list" rAppend (tCons (tC y) tNil) σ (.ref p) H Q := by
  have e := (hh.pk k).lst (List.mem_cons_self ..)
  exact w_kbm (ty_list (SqL.of e)) (w_append e hz fun H2 g => q H2 (hh.chgL k g))
theorem g_app (hh : Hd H L) (k : Pk L (lstC p xs) M) (hz : xs.length < sizeLine) (q : ∀ H2, Hd H2 (lstC p (xs ++ [y]) :: M) → Q .non H2) : rAppend (.ref p) [y] H Q := w_append ((hh.pk k).lst (List.mem_cons_self ..)) hz fun H2 g => q H2 (hh.chgL k g)
theorem g_kbm {g : V → List V → Hp → VK → Prop} {t : TA} (hh : Hd H L) (m : lstC p xs ∈ L) (h : t σ H fun zs H2 => g (.ref p) zs H2 Q) : KBM K "list" g t σ (.ref p) H Q := w_kbm (ty_list (hh.sqL m)) h
theorem g_kbm0 {g : V → List V → Hp → VK → Prop} (hh : Hd H L) (m : lstC p xs ∈ L) (h : g (.ref p) [] H Q) : KBM0 K "list" g (.ref p) H Q := w_kbm0 (ty_list (hh.sqL m)) h
theorem g_popAt (hh : Hd H L) (k : Pk L (lstC p xs) M) (hn : n < xs.length) (hb : n < 2 ^ 62) (hv : xs[n]? = some y) (q : ∀ H2, Hd H2 (lstC p (xs.eraseIdx n) :: M) → Q y H2) : rPopAt (.ref p) [.int (n : Int)] H Q := w_popAt ((hh.pk k).lst (List.mem_cons_self ..)) hn hb hv fun H2 g => q H2 (hh.chgL k g)
theorem g_listL (hh : Hd H L) (h : SqL K H p ys) (q : ∀ l H2, Hd H2 (lstC l ys :: L) → Q (.ref l) H2) : CB (rListOf K) [.ref p] H Q := c_listL h fun l H2 n2 => q l H2 (hh.newL n2)
theorem g_listT (hh : Hd H L) (h : SqT K H p ys) (q : ∀ l H2, Hd H2 (lstC l ys :: L) → Q (.ref l) H2) : CB (rListOf K) [.ref p] H Q := c_listT h fun l H2 n2 => q l H2 (hh.newL n2)
theorem g_tupL (hh : Hd H L) (h : SqL K H p ys) (q : ∀ l H2, Hd H2 (tupC l ys :: L) → Q (.ref l) H2) : CB (rTupOf K) [.ref p] H Q := c_tupL h fun l H2 n2 => q l H2 (hh.newT n2)
theorem g_fld (hh : Hd H L) (m : insC a C fs ∈ L) (c : Cls K C) (n : NoAttr K C f) (l : fs.lookup f = some v) (q : Q v H) : KFld K f (.ref a) H Q := let ⟨_, e⟩ := hh.ins m; w_kfld e c n l q
theorem g_sfld (hh : Hd H L) (k : Pk L (insC a C fs) M) (c : Cls K C) (n : NoAttr K C f) (hl : fs.length < 1000) (q : ∀ H2, Hd H2 (insC a C (putF f y fs) :: M) → D.nx σ H2) : KSFld K f D σ y (.ref a) H :=
  let ⟨_, e⟩ := (hh.pk k).ins (List.mem_cons_self ..)
  w_ksfld e c n hl fun H2 g => q H2 (hh.chgI k g)
theorem g_meth {m : Str} {t : TA} (hh : Hd H L) (k : insC a C fs ∈ L) (l : fs.lookup m = none) (h : t σ H fun vs H2 => sp (.ref a :: (vs ++ dvs)) H2 Q E) : KMeth C m sp dvs E t σ Q (.ref a) H := let ⟨_, e⟩ := hh.ins k; w_kmeth e l h
theorem g_prop (hh : Hd H L) (k : insC a C fs ∈ L) (h : sp [.ref a] H Q E) : KProp C sp E Q (.ref a) H := let ⟨_, e⟩ := hh.ins k; w_kprop e h
theorem g_make {vs : List V} (hh : Hd H L) (q : ∀ x H2, Hd H2 (insC x C [] :: L) → sp (.ref x :: (vs ++ dvs)) H2 (fun v H2 => v = .non ∧ Q (.ref x) H2) E) : KMake C sp dvs E Q vs H := fun x dx hx hdx ne => by
  have u : Upt [] H (upd (upd H dx (.own x)) x (.ins C dx [])) := fun b o _ e => by rw [upd_ne (ne_of_none e hx), upd_ne (ne_of_none e hdx)]; exact e
  refine q x _ ((hh.new (H2 := upd (upd H dx (.own x)) x (.ins C dx [])) (p := x) (o := .ins C dx []) (P := fun o => ∃ dx, o = .ins C dx []) ⟨hx, upd_same, u⟩ ⟨dx, rfl⟩))
theorem g_cat (hh : Hd H L) (h1 : lstC a xs ∈ L) (h2 : lstC b ys ∈ L) (hz : xs.length + ys.length ≤ sizeLine) (q : ∀ p H2, Hd H2 (lstC p (xs ++ ys) :: L) → Q (.ref p) H2) : rCat (.ref a) (.ref b) H Q := w_cat (hh.lst h1) (hh.lst h2) hz fun p H2 n2 => q p H2 (hh.newL n2)
theorem g_rep {k : Int} (hh : Hd H L) (h1 : lstC a xs ∈ L) (h2 : -(2 ^ 63) ≤ k) (h3 : k < 2 ^ 63) (hz : xs.length * k.toNat ≤ sizeLine) (q : ∀ p H2, Hd H2 (lstC p (List.replicate k.toNat xs).flatten :: L) → Q (.ref p) H2) : rRep (.ref a) (.int k) H Q := w_rep (hh.lst h1) h2 h3 hz fun p H2 n2 => q p H2 (hh.newL n2)
theorem g_ixI {ns : List Int} {k : Nat} (hh : Hd H L) (m : lstC p (ns.map V.int) ∈ L) (hk : k < ns.length) (q : ∀ z, ns[k]? = some z → Q (.int z) H) : rIxL K (.ref p) (.int k) H Q :=
  w_ixL (hh.sqL m) (atI_nat (by rw [List.getElem?_map, List.getElem?_eq_getElem hk]; rfl)) (q _ (List.getElem?_eq_getElem hk))
theorem g_ixIT {ns : List Int} {k : Nat} (hh : Hd H L) (m : tupC p (ns.map V.int) ∈ L) (hk : k < ns.length) (q : ∀ z, ns[k]? = some z → Q (.int z) H) : rIxT K (.ref p) (.int k) H Q :=
  w_ixT (hh.sqT m) (atI_nat (by rw [List.getElem?_map, List.getElem?_eq_getElem hk]; rfl)) (q _ (List.getElem?_eq_getElem hk))
theorem g_setI {ns : List Int} {k : Nat} {z : Int} (hh : Hd H L) (m : Pk L (lstC p (ns.map V.int)) M) (hk : k < ns.length) (q : ∀ H2, Hd H2 (lstC p ((ns.set k z).map V.int) :: M) → P H2) : rSetL (.ref p) (.int k) (.int z) H P :=
  g_set hh m (n := k) (by rw [List.length_map]; exact Evl.ixN_nat hk) fun H2 h2 => q H2 (by rw [List.map_set]; exact h2)
theorem g_inT {r : Bool} (hh : Hd H L) (h : tupC p xs ∈ L) (fx : flatV x = true) (fs : xs.all flatV = true) (e : inV x xs = r) (q : Q (.bl r) H) : rIn K false x (.ref p) H Q := w_inT (hh.tup h) fx fs e q
theorem g_kapp (hh : Hd H L) (k : Pk L (lstC p xs) M) (hz : xs.length < sizeLine) (q : ∀ H2, Hd H2 (lstC p (xs ++ [y]) :: M) → P H2) : KApp p P y H := w_kapp ((hh.pk k).lst (List.mem_cons_self ..)) hz fun H2 g => q H2 (hh.chgL k g)
theorem g_isiT2 {t A B : String} {q1 q2 r : Bool} {tp : Addr} (hh : Hd H L) (ht : tupC tp [.ty A, .ty B] ∈ L) (ty : TyX K H x (.type t)) (ha : kitB t A = some q1) (hb : kitB t B = some q2) (hr : (q1 || q2) = r) (q : Q (.bl r) H) : CB (rIsiT K) [x, .ref tp] H Q := c_isiT2 (hh.tup ht) ty ha hb hr q
end
section
variable {K : PySem.W.Frag} {σ : L2.St} {H : Hp} {Q : VK} {L : List Cell} {te : TE} {n m : Nat} {j : Int} {a : Addr} {xs : List V}
theorem g_lcR (hh : Hd H L) (hj : j = (m : Int)) (hb : m ≤ 1000000) (Pv : Nat → Addr → Hp → Prop) (h0 : ∀ D H1, Hd H1 (lstC D [] :: L) → Pv 0 D H1)
    (hs : ∀ (i : Nat) D H, i < m → Pv i D H → te ((σ.set n none).set n (some (.int (i : Int)))) H (KApp D (Pv (i + 1) D)))
    (hd : ∀ D H, Pv m D H → Q (.ref D) H) : KLcR (gName n) tYes te [n] σ Q [.int j] H := lc_R hj hb Pv (fun D H1 nn => h0 D H1 (hh.newL nn)) hs hd
theorem g_lcL (hh : Hd H L) (h : SqL K H a xs) (Pv : Nat → Addr → Hp → Prop) (h0 : ∀ D H1, Hd H1 (lstC D [] :: L) → Pv 0 D H1) (hl : ∀ i D H, i ≤ xs.length → Pv i D H → SqL K H a xs)
    (hs : ∀ (i : Nat) x D H, xs[i]? = some x → Pv i D H → te ((σ.set n none).set n (some x)) H (KApp D (Pv (i + 1) D)))
    (hd : ∀ D H, Pv xs.length D H → Q (.ref D) H) : KLcL K (gName n) tYes te [n] σ Q (.ref a) H := lc_L h Pv (fun D H1 nn => h0 D H1 (hh.newL nn)) hl hs hd
end
/-! ### data as blocks of cells -/
/-- the block Z holds the datum d at v -/
def Zc (K : PySem.W.Frag) (Z : List Cell) (n : Nat) (v : V) (d : PyData) : Prop := ∀ H, Hd H Z → Dn K [] H n v d
theorem same_nodup (A : List Addr) : ∃ B : List Addr, B.Nodup ∧ ∀ a, a ∈ A ↔ a ∈ B := by
  induction A with
  | nil => exact ⟨[], List.nodup_nil, fun a => Iff.rfl⟩
  | cons x A ih =>
    obtain ⟨B, h1, h2⟩ := ih
    by_cases h : x ∈ B
    · exact ⟨B, h1, fun a => by rw [List.mem_cons, h2]; exact ⟨fun z => z.elim (fun e => e ▸ h) id, .inr⟩⟩
    · exact ⟨x :: B, List.nodup_cons.mpr ⟨h, h1⟩, fun a => by rw [List.mem_cons, List.mem_cons, h2]⟩
section
variable {K : PySem.W.Frag} {S : List Addr} {H H' : Hp} {a : Addr} {xs : List V}
/-- H' has what H has at A -/
def Agr (A : List Addr) (H H' : Hp) : Prop := ∀ b ∈ A, ∀ o, H b = some o → H' b = some o
theorem SqL.addr (h : SqL K H a xs) : ∃ A : List Addr, (∀ b ∈ A, b = a ∧ ∃ o, H b = some o) ∧ ∀ H', Agr A H H' → SqL K H' a xs := by
  rcases h with (h | ⟨q, h⟩) | h
  · exact ⟨[a], fun b hb => by rw [List.mem_singleton.mp hb]; exact ⟨rfl, _, h⟩, fun H' e => .inl (.inl (e a (List.mem_singleton.mpr rfl) _ h))⟩
  · exact ⟨[a], fun b hb => by rw [List.mem_singleton.mp hb]; exact ⟨rfl, _, h⟩, fun H' e => .inl (.inr ⟨q, e a (List.mem_singleton.mpr rfl) _ h⟩)⟩
  · exact ⟨[], fun b hb => absurd hb (List.not_mem_nil), fun H' _ => .inr h⟩
theorem SqT.addr (h : SqT K H a xs) : ∃ A : List Addr, (∀ b ∈ A, b = a ∧ ∃ o, H b = some o) ∧ ∀ H', Agr A H H' → SqT K H' a xs := by
  rcases h with (h | ⟨q, h⟩) | h
  · exact ⟨[a], fun b hb => by rw [List.mem_singleton.mp hb]; exact ⟨rfl, _, h⟩, fun H' e => .inl (.inl (e a (List.mem_singleton.mpr rfl) _ h))⟩
  · exact ⟨[a], fun b hb => by rw [List.mem_singleton.mp hb]; exact ⟨rfl, _, h⟩, fun H' e => .inl (.inr ⟨q, e a (List.mem_singleton.mpr rfl) _ h⟩)⟩
  · exact ⟨[], fun b hb => absurd hb (List.not_mem_nil), fun H' _ => .inr h⟩
theorem paired_addr {n : Nat} (F : ∀ v d, Dn K S H n v d → ∃ A : List Addr, (∀ b ∈ A, b ∉ S ∧ ∃ o, H b = some o) ∧ ∀ H', Agr A H H' → Dn K [] H' n v d) : ∀ {xs : List V} {ds : List PyData}, Paired (Dn K S H n) xs ds →
    ∃ A : List Addr, (∀ b ∈ A, b ∉ S ∧ ∃ o, H b = some o) ∧ ∀ H', Agr A H H' → Paired (Dn K [] H' n) xs ds
  | _, _, .nil => ⟨[], fun b hb => absurd hb (List.not_mem_nil), fun _ _ => .nil⟩
  | _, _, .cons r t => by
    obtain ⟨A, h1, h2⟩ := F _ _ r
    obtain ⟨B, h3, h4⟩ := paired_addr F t
    refine ⟨A ++ B, fun b hb => (List.mem_append.mp hb).elim (h1 b) (h3 b), fun H' e => .cons (h2 H' fun b hb => e b (List.mem_append_left _ hb)) (h4 H' fun b hb => e b (List.mem_append_right _ hb))⟩
theorem Dn.addr : ∀ {n : Nat} {v : V} {d : PyData}, Dn K S H n v d → ∃ A : List Addr, (∀ b ∈ A, b ∉ S ∧ ∃ o, H b = some o) ∧ ∀ H', Agr A H H' → Dn K [] H' n v d
  | 0, _, _, h => ⟨[], fun b hb => absurd hb (List.not_mem_nil), fun _ _ => h⟩
  | n + 1, v, d, h => by
    rcases h with h | ⟨a, xs, ds, e1, e2, ha, hq, hl, p⟩ | ⟨a, xs, ds, e1, e2, ha, hq, hl, p⟩
    · exact ⟨[], fun b hb => absurd hb (List.not_mem_nil), fun _ _ => .inl h⟩
    · obtain ⟨A, h1, h2⟩ := SqL.addr hq
      obtain ⟨B, h3, h4⟩ := paired_addr (fun v d => Dn.addr) p
      exact ⟨A ++ B, fun b hb => (List.mem_append.mp hb).elim (fun z => ⟨(h1 b z).1 ▸ ha, (h1 b z).2⟩) (h3 b), fun H' e => .inr (.inl ⟨a, xs, ds, e1, e2, by simp, h2 H' fun b hb => e b (List.mem_append_left _ hb), hl, h4 H' fun b hb => e b (List.mem_append_right _ hb)⟩)⟩
    · obtain ⟨A, h1, h2⟩ := SqT.addr hq
      obtain ⟨B, h3, h4⟩ := paired_addr (fun v d => Dn.addr) p
      exact ⟨A ++ B, fun b hb => (List.mem_append.mp hb).elim (fun z => ⟨(h1 b z).1 ▸ ha, (h1 b z).2⟩) (h3 b), fun H' e => .inr (.inr ⟨a, xs, ds, e1, e2, by simp, h2 H' fun b hb => e b (List.mem_append_left _ hb), hl, h4 H' fun b hb => e b (List.mem_append_right _ hb)⟩)⟩
theorem Dn.chunk {n : Nat} {v : V} {d : PyData} (h : Dn K S H n v d) : ∃ Z : List Cell, Hd H Z ∧ (∀ c ∈ Z, c.1 ∉ S) ∧ Zc K Z n v d := by
  obtain ⟨A, h1, h2⟩ := h.addr
  obtain ⟨B, h3, h4⟩ := same_nodup A
  refine ⟨B.map fun a => (a, fun o => H a = some o), ⟨?_, fun c hc => ?_⟩, fun c hc => ?_, fun H' hh => h2 H' fun b hb o ho => ?_⟩
  · rw [List.map_map]
    exact (List.map_id B).symm ▸ h3
  · obtain ⟨a, ha, rfl⟩ := List.mem_map.mp hc
    obtain ⟨o, ho⟩ := (h1 a ((h4 a).mpr ha)).2
    exact ⟨o, ho, ho⟩
  · obtain ⟨a, ha, rfl⟩ := List.mem_map.mp hc
    exact (h1 a ((h4 a).mpr ha)).1
  · obtain ⟨u, e1, e2⟩ := hh.at_ _ (List.mem_map.mpr ⟨b, (h4 b).mp hb, rfl⟩)
    have e3 : H b = some u := e2
    rw [ho] at e3
    cases e3
    exact e1
theorem Hd.join {Z L : List Cell} (h1 : Hd H Z) (h2 : Hd H L) (d : ∀ c ∈ Z, c.1 ∉ L.map Prod.fst) : Hd H (Z ++ L) := by
  refine ⟨?_, fun c hc => (List.mem_append.mp hc).elim (h1.at_ c) (h2.at_ c)⟩
  rw [List.map_append]
  refine List.nodup_append.mpr ⟨h1.nd, h2.nd, fun x hx y hy e => ?_⟩
  subst e
  obtain ⟨c, hc, rfl⟩ := List.mem_map.mp hx
  exact d c hc hy
theorem Zc.up {Z : List Cell} {n m : Nat} {v : V} {d : PyData} (z : Zc K Z n v d) (h : n ≤ m) : Zc K Z m v d := fun H hh => Dn.up h (z H hh)
theorem Zc.sb {Z Y : List Cell} {n : Nat} {v : V} {d : PyData} (z : Zc K Z n v d) (s : Sb Z Y) : Zc K Y n v d := fun H hh => z H (hh.sb s)
theorem Dn.tup_inv {n : Nat} {v : V} {ds : List PyData} (h : Dn K S H (n + 1) v (.tuple ds)) : ∃ a xs, v = .ref a ∧ SqT K H a xs ∧ xs.length ≤ 100000 ∧ Paired (Dn K S H n) xs ds := by
  rcases h with h | ⟨a, xs, ds', e1, e2, ha, hq, hl, p⟩ | ⟨a, xs, ds', e1, e2, ha, hq, hl, p⟩
  · cases h
  · cases e2
  · cases e2; exact ⟨a, xs, e1, hq, hl, p⟩
theorem Dn.lst_inv {n : Nat} {v : V} {ds : List PyData} (h : Dn K S H (n + 1) v (.list ds)) : ∃ a xs, v = .ref a ∧ SqL K H a xs ∧ xs.length ≤ 100000 ∧ Paired (Dn K S H n) xs ds := by
  rcases h with h | ⟨a, xs, ds', e1, e2, ha, hq, hl, p⟩ | ⟨a, xs, ds', e1, e2, ha, hq, hl, p⟩
  · cases h
  · cases e2; exact ⟨a, xs, e1, hq, hl, p⟩
  · cases e2
theorem Dn.int_inv {v : V} {i : Int} : ∀ {n : Nat}, Dn K S H n v (.int i) → v = .int i
  | 0, h => by cases h; rfl
  | n + 1, h => by
    rcases h with h | ⟨a, xs, ds', e1, e2, _⟩ | ⟨a, xs, ds', e1, e2, _⟩
    · cases h; rfl
    · cases e2
    · cases e2
theorem Dn.str_inv {v : V} {z : Str} : ∀ {n : Nat}, Dn K S H n v (.str z) → v = .str z
  | 0, h => by cases h; rfl
  | n + 1, h => by
    rcases h with h | ⟨a, xs, ds', e1, e2, _⟩ | ⟨a, xs, ds', e1, e2, _⟩
    · cases h; rfl
    · cases e2
    · cases e2
theorem Paired.ints_inv {n : Nat} : ∀ {ns : List Int} {xs : List V}, Paired (Dn K S H n) xs (ns.map PyData.int) → xs = ns.map V.int
  | [], _, .nil => rfl
  | _ :: _, _, .cons r t => by rw [Dn.int_inv r, Paired.ints_inv t]; rfl
end
end Wk
set_option Elab.async false
set_option linter.all false
set_option maxRecDepth 100000
set_option maxHeartbeats 4000000
/-! Wk: short loops unrolled, further steps over the ledger. -/
namespace Wk
open PySem PySem.Spec PyProof.Rows L2
section
variable {g : TG} {tb : TS} {D : Ends} {σ : L2.St} {H : Hp}
/-- the rest of a loop over a text, sign by sign -/
def unrS (g : TG) (tb : TS) (D : Ends) : List Nat → L2.St → Hp → Prop
  | [], σ, H => D.nx σ H
  | c :: cs, σ, H => g (.str ⟨#[c]⟩) σ H fun σ2 H2 => tb { D with nx := unrS g tb D cs, ct := unrS g tb D cs, bk := D.nx } σ2 H2
theorem w_unr {x : Str} (h : unrS g tb D x.cps.toList σ H) : KForS g tb D σ (.str x) H := by
  refine ⟨x, rfl, fun i m σ H => unrS g tb D (x.cps.toList.drop i) σ H ∧ m = x.cps.size - i, ⟨_, h, rfl⟩, ?_⟩
  rintro i m σ H ⟨h1, rfl⟩
  cases e : x.cps.toList.drop i with
  | nil =>
    rw [e] at h1
    refine .inl ⟨?_, h1⟩
    have l := congrArg List.length e
    rw [List.length_drop, Array.length_toList, List.length_nil] at l
    show x.cps.size ≤ i
    omega
  | cons c r =>
    rw [e] at h1
    have l := congrArg List.length e
    rw [List.length_drop, Array.length_toList, List.length_cons] at l
    have hi : i < x.cps.size := by omega
    have er : x.cps.toList.drop (i + 1) = r := by rw [← List.drop_drop, e]; rfl
    have ec : x.cps[i]? = some c := by
      have z : x.cps.toList[i]? = some c := by
        have := List.head?_drop (l := x.cps.toList) (i := i)
        rw [e] at this
        exact this.symm
      rw [← Array.getElem?_toList]
      exact z
    refine .inr ⟨hi, unrS g tb D r, fun σ' H' n => ⟨x.cps.size - (i + 1), by omega, er ▸ n, rfl⟩, ?_⟩
    rintro y H' ⟨rfl, c', hc', rfl⟩
    rw [ec] at hc'
    cases hc'
    exact h1
end
end Wk
set_option Elab.async false
set_option linter.all false
set_option maxRecDepth 100000
set_option maxHeartbeats 4000000
/-! Wk: own exception classes over an own class over ValueError: made, raised, caught. -/
namespace Wk
open PySem PySem.Spec PyProof.Rows L2
section
variable {X : Cx} {e : Expr} {es : List Expr} {ta : TA} {p1 p2 pos : Pos}
/-- B.__init__(self, ..), B an own class that leaves __init__ to ValueError -/
theorem pe_weinit {x : Str} {B : Addr} {mc : Value} {pl : Sem Bool} (hg : Gl X x) (hm : X.mg x = some (.ref B)) (hsp : PySem.W.specialIn X.K (.ref B) "__getattribute__" = some (some (.builtin "type.__getattribute__"))) (hr : PySem.W.readsIn X.K B mc = true)
    (vV : PySem.W.findCls X.K (.ref B) mc "__init__" = some (.val (.builtin "ValueError.__init__"))) (ha : PA X (e :: es) ta)
    (hc : eval (.Call (.Attribute (.Name x p1) "__init__" p2) (e :: es) [] pos) X.env = (do
      let ov ← eval (.Name x p1) X.env
      standAt p2.atName
      let (f, first) ← holding [ov] (getMethod ov "__init__" pl)
      callWith pos f first (backTo pos (starEach (e :: es) X.env)) (backToKw pos (keywordEach [] X.env))) := by rfl) (hdb : (x == ("__debug__" : Str)) = false := by decide)
    (he : starEach (e :: es) X.env = (false, eval e X.env) :: starEach es X.env := by rfl) (hpl : (backTo pos (starEach es X.env)).any (·.1) = false := by rfl) :
    PE X (.Call (.Attribute (.Name x p1) "__init__" p2) (e :: es) [] pos) (tVeI X.K ta) := by
  refine ⟨fun pins s σ H Q I h => ?_⟩
  refine PySem.W.methodCall_KW (ld_glob I hg hm ?_ hdb) hc
  refine PySem.W.method_cls I.kIn hsp (PySem.W.cls_value I.kIn hr vV (by decide +kernel) ?_)
  show wpAny _ _ (callWith pos (Value.builtin "ValueError.__init__") [] (backTo pos (starEach (e :: es) X.env)) []) _ _ _
  refine PyProof.Rows.callWith_method1 (thn (ha.run pos pins _ σ H _ (I.tok _) h) fun us s1 ⟨vs, H1, I1, r1, a, C, ws, ev, hl, T, ea, q⟩ => ?_) he hpl
  subst ev
  cases r1 with
  | @cons _ u0 _ ur ra rw' =>
    obtain rfl : u0 = Value.ref a := ra
    have hlen : ur.length ≤ sizeLine := by
      rw [← Paired.length rw', sizeLine_eq]
      omega
    exact oinit_ok T I1 ea hlen fun s' J => ⟨.non, H1, J, rfl, q⟩
end

/-! ### an own class is called: its __init__ is walked; the new error's context is None -/
section
variable {X : Cx} {e : Expr} {es : List Expr} {ta : TA} {p pos : Pos}
theorem pmk_oexN {CX : CXT} {x : Str} {C fI : Addr} {k : Nat} {fd : FuncData} {ps : List Str} {sp : Sp} {ds : List Value} {dvs : List V} (T : OexC X.K C) (iC : PySem.W.findIn X.K (.ref C) "__init__" = some (some (.ref fI)))
    (tI : PySem.W.typeIn X.K (.ref fI) = some (.type "function")) (F1 : FnOk X.prog X.w X.K X.mg X.base CX k fI fd ps sp) (hr : Room (k + 1) X.A) (hb : Binds X.K fd ps ds) (hd : Vals dvs ds) (hx : Passes CX X (fun _ _ _ => False))
    (hg : Gl X x) (hm : X.mg x = some (.ref C)) (ha : PA X (e :: es) ta) (hdb : (x == ("__debug__" : Str)) = false := by decide)
    (he : starEach (e :: es) X.env = (false, eval e X.env) :: starEach es X.env := by rfl) (hpl : (backTo pos (starEach es X.env)).any (·.1) = false := by rfl) :
    L2N.PMk X (.Call (.Name x p) (e :: es) [] pos) (tMkO C sp dvs ta) := by
  intro pins s σ H Q I h
  obtain ⟨nm, q, N, bs, bm, sn, sub, ab, col, dd, k0, k1, k2, k3, k5, hC, hbm⟩ := T.cls
  refine wpAny_Call_Name_kw (ld_glob I hg hm ?_ hdb)
  refine PySem.W.callWith_K (h₀ := X.base) I.ok.mod.kin T.kC (thn (ha.run pos pins s σ H _ I h) fun us s1 ⟨vs, H1, I1, r1, hz, q1⟩ => ⟨I1.kIn, ?_⟩) he hpl
  show wpAny _ _ (call (.ref C) us) _ _ _
  obtain ⟨hp, g, dr, tk, os⟩ := s1
  have above : hp.objs.size ≤ hp.objs.size + 1 := Nat.le_add_right _ 1
  have free : H1 (hp.objs.size + 1) = none := I1.hok.fresh above
  have stay : ∀ b o, hp.get? b = some o → ((hp.push (PySem.W.kdv_tup us)).push (PySem.HandSPX.excO C hp.objs.size)).get? b = some o :=
    fun b o z => Heap.get?_push_of_some _ (Heap.get?_push_of_some _ z)
  have new : ((hp.push (PySem.W.kdv_tup us)).push (PySem.HandSPX.excO C hp.objs.size)).get? (hp.objs.size + 1) = some (PySem.HandSPX.excO C hp.objs.size) := by heap_get
  have I2 : Inv X pins σ (upd H1 (hp.objs.size + 1) (exo (hp.objs.size + 1) C none)) ⟨(hp.push (PySem.W.kdv_tup us)).push (PySem.HandSPX.excO C hp.objs.size), g, dr, tk, os⟩ :=
    I1.laid (t' := tk) (a := hp.objs.size + 1) (o := exo (hp.objs.size + 1) C none) (h' := (hp.push (PySem.W.kdv_tup us)).push (PySem.HandSPX.excO C hp.objs.size)) stay above (exo_ok new)
  have body := q1 (hp.objs.size + 1) free
  have rel : Vals (V.ref (hp.objs.size + 1) :: (vs ++ dvs)) (Value.ref (hp.objs.size + 1) :: (us ++ ds)) := .cons rfl (r1.append hd)
  have many : (Value.ref (hp.objs.size + 1) :: us ++ ds).length = ps.length := by
    have z := rel.length
    rw [F1.len _ _ _ _ body] at z
    exact z.symm
  have short : us.length ≤ sizeLine := by
    have z := Paired.length r1
    have z2 := sizeLine_eq
    omega
  refine wpAny_call (PySem.HandSPX.call_own F.excBase_ValueError (fun Y => PySem.HandSPX.refsVE_contains Y bm hbm) (I1.kIn _ _ hC) (PySem.W.looks_findIn I1.kIn iC) (fun self => PySem.W.bind_fn I1.kIn self tI) short
    (codeAny_mono (F1.run _ X.stack _ _ ⟨Value.ref (hp.objs.size + 1) :: us, []⟩ (Value.ref (hp.objs.size + 1) :: (us ++ ds)) _ _ (fun _ _ _ => False) (hr.make C us []) (I2.env0.make C us []) (hb _ (Value.ref (hp.objs.size + 1) :: us) I2.kIn many) rel body) fun r s' out => ?_))
  cases r with
  | error er => exact hx pins σ _ _ er s' I2 out
  | ok fl =>
    cases fl with
    | next => exact False.elim out
    | brk => exact False.elim out
    | cont => exact False.elim out
    | ret u =>
      obtain ⟨v, H2, os2, bare2, un2, hok2, rv, ev, d, fs, ea, ed, hd1, q2⟩ := out
      subst ev
      obtain ⟨h2, g2, d2, t2, os'⟩ := s'
      obtain ⟨t0, G, J, kG, ge, hoe, na⟩ := mk_end0 (d2 := d2) (t2 := t2) I1 above stay un2 hok2 os2 bare2 ea ed hd1
      exact ⟨rv, _, _, _, ⟨G, g2, d2, t2, os'⟩, _, .ref C, some d, rfl, J, kG, ge, hoe, ⟨rfl, rfl, fun vs z => by cases z; rfl⟩, rfl, rfl, na, rfl, bare2, raises_own T.exC T.tyC, q2⟩
end

/-! ### a handled error that stands pinned: its class is asked, its fields are read -/
/-- isinstance(e, c), e the pinned error of the class D with its dict at dd -/
def rIsP (K : PySem.W.Frag) (D a dd : Addr) : List V → Hp → VK → Prop := fun xs H Q =>
  ∃ (c : V) (cv : Value) (b : Bool) (fs : List (Str × V)), xs = [.ref a, c] ∧ (∀ u, RelV c u → u = cv) ∧ PySem.W.kitOne K (.ref D) cv = some b ∧ H dd = some (.xd fs) ∧ Q (.bl b) H
theorem call_isP {X : Cx} {a D dd : Addr} {oe : Obj} (C : ExcC X.K D) (hp : (a, oe) ∈ X.pn) (hz : L2.Zc (.ref D) (some dd) oe) (hf : ∃ vs, oe.data = .fields vs) : CallR X (.builtin "isinstance") (rIsP X.K D a dd) := by
  intro pins s σ H xs us Q I r h
  obtain ⟨c, cv, b, fs, rfl, hcv, e, hd, q⟩ := h
  cases r with
  | cons rx rr =>
    cases rr with
    | cons rt rr =>
      cases rr
      cases rx
      have ec := hcv _ rt
      subst ec
      obtain ⟨hget, _⟩ := I.pin (a, oe) (List.mem_append_left _ hp)
      obtain ⟨vs, hv⟩ := hf
      have ho : ObjOk X.prog X.w H s.heap dd (.xd fs) := I.hok dd _ hd
      obtain ⟨od, hod⟩ := objOk_get ho
      have J : PySem.W.InstAt s.heap a oe D (some od) := ⟨hget, hz.1, by unfold PySem.W.notCls; rw [hv] <;> rfl, by rw [hz.2]; exact hod⟩
      have hcl : (PySem.W.clsIn X.K D).isSome = true := by
        obtain ⟨cd, hc, _⟩ := PySem.W.any_some C.hd
        rw [hc]
        rfl
      exact PySem.W.kia_one (PySem.W.kitx_exc hcl C.hg C.hk C.hs C.ha C.hn C.ht C.hm) I.kIn J e (fun z => nomatch z) fun tk => ⟨.bl b, H, I.kept (t' := tk) fun _ _ z => z, rfl, q⟩
theorem pe_xfP {X : Cx} {a C : Addr} {oe : Obj} {cls : Value} {d : Option Addr} {e : Expr} {te : TE} {pos : Pos} {n : Str} (T : XfC X.K C) (hno : PySem.W.findIn X.K (.ref C) n = some none)
    (hp : (a, oe) ∈ X.pn) (hz : L2.Zc cls d oe) (hf : ∃ vs, oe.data = .fields vs) (he : PE X e te) (hb : attributeBase e n X.env (eval e X.env) = eval e X.env := by rfl) : PE X (.Attribute e n pos) (tXf a cls d C n te) := by
  refine ⟨fun pins s σ H Q I h => ?_⟩
  refine attr_of hb (thn (he.run pins s σ H _ I h) fun u s1 out => ?_)
  obtain ⟨x, H1, I1, rx, ex, ec, dd, fs, v, ed, ea, l, q⟩ := out
  subst ex ec ed
  obtain rfl : u = Value.ref a := rx
  have hget := (I1.pin (a, oe) (List.mem_append_left _ hp)).1
  obtain ⟨vs, hd⟩ := hf
  obtain ⟨mA, hns, hr⟩ := (I1.hok dd _ ea : ObjOk X.prog X.w H1 s1.heap dd (.xd fs))
  obtain ⟨od, ho, hl⟩ := lookIn_ns hns
  obtain ⟨u, hu, ru⟩ := RelO.some_of (v := v) (o := mA n) (by rw [← l]; exact hr n)
  have J : PySem.W.InstAt s1.heap a oe C (some od) := ⟨hget, hz.1, by unfold PySem.W.notCls; rw [hd] <;> rfl, by rw [hz.2]; exact ho⟩
  exact PySem.HandSPX.exc_get I1.kIn J T.ga T.gg T.exC (PySem.W.findObj_own T.hdC hno rfl (by rw [hl, hu])) (handed_of ru) ⟨v, H1, I1.tok _, ru, q⟩

/-! ### a def that gets the handled error: its contract speaks of the error's object -/
abbrev SpP := Addr × Obj → Sp
structure FnE (P : Program) (w : World) (K : PySem.W.Frag) (mg : Str → Option Value) (base : Heap) (CX : CXT) (k : Nat) (f : Addr) (fd : FuncData) (ps : List Str) (sp : SpP) : Prop where
  len : ∀ p vs H Q E, sp p vs H Q E → vs.length = ps.length
  run : ∀ (A : Around) (outer : List Env) (s : Shared) (H : Hp) (args : Args) (us : List Value) (vs : List V) (Q : VK) (E : XK) (p : Addr × Obj), L2H.RoomH k A → L2H.Hot1 A p → L2H.PinOk outer H s p → Env0 P w K mg base A outer s H →
    BindsTo s fd args (ps.zip us) → Vals vs us → sp p vs H Q E → codeAny (model P w) A (.call (.ref f) args) (CR CX outer P w H s Q E) s
theorem fn_ofE {CX : CXT} {P : Program} {w : World} {K : PySem.W.Frag} {mg : Str → Option Value} {base : Heap} {k : Nat} {f : Addr} {name qual : Str} {params : Arguments} {body : List Stmt} {scope : Scope} {dV kV doc pm cdv ct oc : Value} {an od : Option Addr}
    {osl : Array (Option Value)} {N ps : List Str} {sp : SpP} (lk : K.lookup f = some ⟨oc, od, .func (PySem.W.fnOf name qual params body scope dV kV doc pm an cdv ct), osl⟩) (hcd : PySem.W.codeIn K cdv qual = true) (S : FnScope N ps scope)
    (len : ∀ p vs H Q E, sp p vs H Q E → vs.length = ps.length)
    (hbody : ∀ (A : Around) (outer : List Env) (s : Shared) (H : Hp) (vs : List V) (Q : VK) (E : XK) (p : Addr × Obj), L2H.Hot1 A p → L2H.RoomH k (A.deeper (envOfC qual scope s.heap.objs.size f cdv)) → sp p vs H Q E →
      ∃ t, PSs (L2H.cxH CX P w K mg base N qual scope f cdv A outer s H E p) body t ∧ t { nx := fun _ H' => Q .non H', rt := Q } (L2.start N vs) H) :
    FnE P w K mg base CX (k + 1) f (PySem.W.fnOf name qual params body scope dV kV doc pm an cdv ct) ps sp := by
  refine ⟨len, fun A outer s H args us vs Q E p room hot pin e0 binds rel told => ?_⟩
  have many := len _ _ _ _ _ told
  have KX : K.In s.heap := e0.mod.kin.keeps fun b o z => (e0.bs b o z).1
  have lim : s.heap.NoLimit := e0.mod.nolimit.keeps fun b o z => (e0.bs b o z).1
  have kinds : ∀ y ∈ ps.zip us, scope.names.lookup y.1 = some .local ∨ (scope.names.lookup y.1 = some .cell ∧ ((cellsFrom (s.heap.objs.size + 1) scope.names []).lookup y.1).isSome = true) := by
    rintro ⟨n, v⟩ hy
    rcases S.par n (List.of_mem_zip hy).1 with z | z
    · exact .inl z
    · exact .inr ⟨z, PySem.W.cellsFrom_some _ _ _ (.inl z)⟩
  refine codeAny_call_function room.depth (KX _ _ lk) rfl S.co S.gen rfl (PySem.W.codeRec_of KX hcd) (binds _ _ _ _ ?_)
  refine wpAny_newFunctionEnv_cells S.kind kinds fun env he s1 x => ?_
  subst he
  refine ⟨lim.keeps x.toInCall.keep, codeAny_func ?_⟩
  obtain ⟨t, walk, goal⟩ := hbody A outer s H vs Q E p hot (room.deeper _) told
  have I : Inv (L2H.cxH CX P w K mg base N qual scope f cdv A outer s H E p) [] (L2.start N vs) H s1 := L2H.inv_startH S pin e0 many rel x
  refine wpAny_mono (walk.run [] s1 (L2.start N vs) H _ I goal) (fun fl s' out => ?_) fun e s' out => out
  have back : ∀ {σ' : L2.St} {H' : Hp} {v : V} {u : Value}, Inv (L2H.cxH CX P w K mg base N qual scope f cdv A outer s H E p) [] σ' H' s' → RelV v u → Q v H' → CE outer P w H s Q u s' :=
    fun {σ' H' v u} J rv q => ⟨v, H', J.os, J.bare, J.base, J.hok, rv, q⟩
  cases fl with
  | next =>
    obtain ⟨σ', H', J, q⟩ := out
    exact back (v := V.non) (u := Value.none) J rfl q
  | ret u =>
    obtain ⟨v, σ', H', J, rv, q⟩ := out
    exact back J rv q
  | brk =>
    obtain ⟨_, _, _, q⟩ := out
    exact False.elim q
  | cont =>
    obtain ⟨_, _, _, q⟩ := out
    exact False.elim q
section
variable {X : Cx} {CX : CXT} {k : Nat} {f : Addr} {fd : FuncData} {ps : List Str} {sp : SpP} {E : L2.St → XK} {x : Str} {q pos : Pos} {e : Expr} {es : List Expr} {t : TA}
/-- f(e, ..) within a suite whose handled error is p -/
theorem pe_callE {p : Addr × Obj} {sp2 : Sp} (imp : ∀ vs H Q E, sp2 vs H Q E → sp p vs H Q E) (F : FnE X.prog X.w X.K X.mg X.base CX k f fd ps sp) (hr : L2H.RoomH k X.A) (hot : L2H.Hot1 X.A p) (hp : p ∈ X.pn) (hg : Gl X x) (hm : X.mg x = some (.ref f)) (hk : PySem.W.keepIn X.K (.ref f) = true) (hb : Binds X.K fd ps [])
    (hx : ∀ σ, PassesAt CX X σ (E σ)) (ha : PA X (e :: es) t) (hdb : (x == ("__debug__" : Str)) = false := by decide) (he : starEach (e :: es) X.env = (false, eval e X.env) :: starEach es X.env := by rfl)
    (hpl : (backTo pos (starEach es X.env)).any (·.1) = false := by rfl) : PE X (.Call (.Name x q) (e :: es) [] pos) (tCallS sp2 E t) := by
  refine ⟨fun pins s σ H Q I h => ?_⟩
  refine wpAny_Call_Name_kw (ld_glob I hg hm ?_ hdb)
  refine PySem.W.callWith_K (h₀ := X.base) I.ok.mod.kin hk (thn (ha.run pos pins s σ H _ I h) fun us s1 ⟨vs, H1, I1, rel, told⟩ => ⟨I1.kIn, ?_⟩) he hpl
  have many : us.length = ps.length := by rw [← rel.length]; exact F.len _ _ _ _ _ (imp _ _ _ _ told)
  have binds := hb s1 us I1.kIn (by rw [List.append_nil]; exact many)
  rw [List.append_nil] at binds
  have P1 := I1.pin p (List.mem_append_left _ hp)
  have pin : L2H.PinOk X.stack H1 s1 p := ⟨P1.1, P1.2.1, fun hm => (List.mem_cons.mp (I1.stkSub p.1 hm)).elim P1.2.2.1 P1.2.2.2.1, P1.2.2.2.2⟩
  refine wpAny_call (codeAny_mono (F.run X.A X.stack s1 H1 ⟨us, []⟩ us vs Q (E σ) p hr hot pin I1.env0 binds rel (imp _ _ _ _ told)) fun r s' out => ?_)
  cases r with
  | error e => exact hx σ pins H1 s1 e s' I1 out
  | ok fl =>
    cases fl with
    | ret u => exact I1.after out
    | next => exact False.elim out
    | brk => exact False.elim out
    | cont => exact False.elim out
end

/-! ### defs that may raise, under their names; nothing is let out that is not told -/
structure CalN (P : Program) (w : World) (K : PySem.W.Frag) (mg : Str → Option Value) (base : Heap) (k : Nat) (x : Str) (sp : Sp) : Prop where
  ex : ∃ (f : Addr) (fd : FuncData) (ps : List Str), FnOk P w K mg base (L2N.CX P w) k f fd ps sp ∧ mg x = some (.ref f) ∧ PySem.W.keepIn K (.ref f) = true ∧ Binds K fd ps []
theorem passN {X : Cx} : Passes (L2N.CX X.prog X.w) X (fun _ _ _ => False) := fun _ _ _ _ _ _ _ h => by
  obtain ⟨_, _, _, _, _, _, _, _, _, _, _, _, z⟩ := h
  exact z.elim
section
variable {X : Cx} {k j : Nat} {sp : Sp} {W : WX} {x : Str} {q pos : Pos} {e : Expr} {es : List Expr} {t : TA}
theorem pe_cN (c : CalN X.prog X.w X.K X.mg X.base k x sp) (hr : Room j X.A) (hk : k ≤ j) (tk : L2N.Takes X W) (hg : Gl X x) (ha : PA X (e :: es) t)
    (hdb : (x == ("__debug__" : Str)) = false := by decide) (he : starEach (e :: es) X.env = (false, eval e X.env) :: starEach es X.env := by rfl) (hpl : (backTo pos (starEach es X.env)).any (·.1) = false := by rfl) :
    PE X (.Call (.Name x q) (e :: es) [] pos) (tCallS sp (WE W) t) := by
  obtain ⟨f, fd, ps, F, hm, kp, b⟩ := c.ex
  exact pe_callS F (hr.mono hk) hg hm kp b (fun σ => L2N.passAt tk σ) ha hdb he hpl
end
theorem takes0N {X : Cx} : L2N.Takes X (fun _ _ _ _ => False) := fun _ _ x => by
  obtain ⟨_, _, _, _, _, _, _, _, _, _, _, _, _, _, _, _, z⟩ := x
  exact z.elim
/-- behind the making of an error: what stood stands, and its dict -/
theorem made_heap {H1 : Hp} {a d C : Addr} {o1 : HO} {fs : List (Str × V)} (n : H1 a = none) (nd : d ≠ a) : upd (del (upd (upd (upd H1 a o1) d (exd d fs)) a (exo a C (some d))) a) d (.xd fs) = upd H1 d (.xd fs) := by
  funext b
  by_cases hd : b = d
  · rw [hd, upd_same, upd_same]
  · rw [upd_ne hd, upd_ne hd]
    by_cases ha : b = a
    · rw [ha, del_same, n]
    · rw [del_ne ha, upd_ne ha, upd_ne hd, upd_ne ha]
end Wk
set_option Elab.async false
set_option linter.all false
set_option maxRecDepth 100000
set_option maxHeartbeats 4000000
/-! Wk: methods and classes called with keywords; methods that may raise. -/
namespace Wk
open PySem PySem.Spec PyProof.Rows L2
section
variable {X : Cx} {CX : CXT} {k n : Nat} {f C : Addr} {fd : FuncData} {ps ks : List Str} {sp : Sp} {x m : Str} {p pos apos : Pos} {e o : Expr} {es : List Expr} {kws : List Keyword} {ta : TE} {t tk : TA} {g : List Value → List Value → List Value} {gV : List V → List V → List V}
theorem run_kwS {E : XK} {pins : List (Addr × Obj)} {σ : L2.St} {H : Hp} {s : Shared} {Q : VK} {us ws : List Value} {vs zs : List V} (F : FnOk X.prog X.w X.K X.mg X.base CX k f fd ps sp) (hr : Room k X.A) (hb : KBn X.K fd ps n ks g gV) (hx : PassesAt CX X σ E)
    (I : Inv X pins σ H s) (r : Vals vs us) (rz : Vals zs ws) (l1 : vs.length = n) (l2 : zs.length = ks.length) (h : sp (gV vs zs) H Q E) : wpAny (model X.prog X.w) X.A (call (.ref f) us (ks.zip ws)) (EP X pins σ Q) X.xe s := by
  have r2 := hb.rel r rz
  refine wpAny_call (codeAny_mono (F.run X.A X.stack s H ⟨us, ks.zip ws⟩ (g us ws) (gV vs zs) Q E hr I.env0 (hb.to s us ws I.kIn (r.length.symm.trans l1) (rz.length.symm.trans l2)) r2 h) fun r s' out => ?_)
  cases r with
  | error e => exact hx pins H s e s' I out
  | ok fl =>
    cases fl with
    | ret u => exact I.after out
    | next => exact False.elim out
    | brk => exact False.elim out
    | cont => exact False.elim out
/-- o.m(k = v, ..) -/
def tMethK (C : Addr) (m : Str) (n : Nat) (sp : Sp) (gV : List V → List V → List V) (E : L2.St → XK) (ta : TE) (tk : TA) : TE := fun σ H Q => ta σ H fun x H1 => ∃ a dx fs, x = .ref a ∧ H1 a = some (.ins C dx fs) ∧ fs.lookup m = none ∧ tk σ H1 fun zs H2 => zs.length = n ∧ sp (gV [x] zs) H2 Q (E σ)
theorem pe_methK {E : L2.St → XK} {pl : Sem Bool} (he : PE X o ta) (c : Cls X.K C) (hm : Meth X.K C m f) (F : FnOk X.prog X.w X.K X.mg X.base CX k f fd ps sp) (hr : Room k X.A) (hb : KBn X.K fd ps 1 ks g gV) (hx : ∀ σ, PassesAt CX X σ (E σ)) (hkw : PK X kws tk)
    (hall : (backToKw pos (keywordEach kws X.env)).all (·.1.isSome) = true := by rfl) (hks : (backToKw pos (keywordEach kws X.env)).filterMap (·.1) = ks := by rfl)
    (hpl : ((backTo pos (starEach [] X.env)).any (·.1) || (backToKw pos (keywordEach kws X.env)).any (·.1.isNone)) = false := by rfl)
    (ht : eval (.Call (.Attribute o m apos) [] kws pos) X.env = (do
      let ov ← eval o X.env
      standAt apos.atName
      let (f, first) ← holding [ov] (getMethod ov m pl)
      callWith pos f first (backTo pos (starEach [] X.env)) (backToKw pos (keywordEach kws X.env))) := by rfl) :
    PE X (.Call (.Attribute o m apos) [] kws pos) (tMethK C m ks.length sp gV E ta tk) := by
  refine ⟨fun pins s σ H Q I h => ?_⟩
  refine PySem.W.methodCall_KW (pl := pl) (thn (he.run pins s σ H _ I h) fun u s1 ⟨x, H1, I1, rx, a, dx, fs, ex, ea, l, q⟩ => ?_) ht
  subst ex
  obtain rfl : u = Value.ref a := rx
  refine getmeth_ok I1 ea c hm l ?_
  refine PySem.W.callWith_KW0 (first := [.ref a]) (h₀ := X.base) I.ok.mod.kin hm.kp hall ?_ hpl
  refine thn (hkw.run pos pins s1 σ H1 _ I1 q) fun ws s2 ⟨zs, H2, I2, rz, l2, q2⟩ => ⟨I2.kIn, ?_⟩
  rw [hks]
  exact run_kwS (us := [.ref a]) (vs := [.ref a]) F hr hb (hx σ) I2 (.cons rfl .nil) rz rfl l2 q2
/-- o.m(e, ..) that may raise -/
def tMethE (C : Addr) (m : Str) (sp : Sp) (E : L2.St → XK) (ta : TE) (t : TA) : TE := fun σ H Q => ta σ H fun x H1 => ∃ a dx fs, x = .ref a ∧ H1 a = some (.ins C dx fs) ∧ fs.lookup m = none ∧ t σ H1 fun vs H2 => sp (x :: vs) H2 Q (E σ)
theorem pe_methE {E : L2.St → XK} {pl : Sem Bool} (he : PE X o ta) (c : Cls X.K C) (hm : Meth X.K C m f) (F : FnOk X.prog X.w X.K X.mg X.base CX k f fd ps sp) (hr : Room k X.A) (hb : Binds X.K fd ps []) (hx : ∀ σ, PassesAt CX X σ (E σ)) (ha : PA X (e :: es) t)
    (hst : starEach (e :: es) X.env = (false, eval e X.env) :: starEach es X.env := by rfl) (hpl : (backTo pos (starEach es X.env)).any (·.1) = false := by rfl)
    (ht : eval (.Call (.Attribute o m apos) (e :: es) [] pos) X.env = (do
      let ov ← eval o X.env
      standAt apos.atName
      let (f, first) ← holding [ov] (getMethod ov m pl)
      callWith pos f first (backTo pos (starEach (e :: es) X.env)) (backToKw pos (keywordEach [] X.env))) := by rfl) :
    PE X (.Call (.Attribute o m apos) (e :: es) [] pos) (tMethE C m sp E ta t) := by
  refine ⟨fun pins s σ H Q I h => ?_⟩
  refine PySem.W.methodCall_KW (pl := pl) (thn (he.run pins s σ H _ I h) fun u s1 ⟨x, H1, I1, rx, a, dx, fs, ex, ea, l, q⟩ => ?_) ht
  subst ex
  obtain rfl : u = Value.ref a := rx
  refine getmeth_ok I1 ea c hm l ?_
  refine PySem.W.callWith_K (first := [.ref a]) (h₀ := X.base) I.ok.mod.kin hm.kp (thn (ha.run pos pins s1 σ H1 _ I1 q) fun us s2 ⟨vs, H2, I2, r, q2⟩ => ⟨I2.kIn, ?_⟩) hst hpl
  exact run_fnS (us := .ref a :: us) (vs := .ref a :: vs) F hr hb (hx σ) I2 (.cons rfl r) q2
end
/-- no defaults: the values in the order of the parameters -/
theorem kbn0 {K : PySem.W.Frag} {x qual : Str} {params : Arguments} {body : List Stmt} {scope : Scope} {f : Addr} {fd : FuncData} {ps ks : List Str} {n : Nat} {g : List Value → List Value → List Value} {gV : List V → List V → List V} (F : FunD K x qual params body scope [] [] f fd)
    (hrel : ∀ {vs : List V} {us : List Value} {zs : List V} {ws : List Value}, Vals vs us → Vals zs ws → Vals (gV vs zs) (g us ws))
    (h : ∀ (kV doc pm : Value) (an : Option Addr) (cdv ct : Value) (us ws : List Value), us.length = n → ws.length = ks.length → bindArgs (PySem.W.fnOf x qual params body scope .none kV doc pm an cdv ct) ⟨us, ks.zip ws⟩ = pure (ps.zip (g us ws))) : KBn K fd ps n ks g gV := by
  obtain ⟨oc, od, dV, kV, doc, pm, an, cdv, ct, osl, rfl, lk, hcd, hD, hK⟩ := F.ex
  rcases hD with ⟨_, rfl⟩ | ⟨e, _⟩
  · exact ⟨fun s us ws _ l1 l2 => .of_eq (h kV doc pm an cdv ct us ws l1 l2), fun r1 r2 => hrel r1 r2⟩
  · exact absurd rfl e
/-! ### under their names -/
/-- a method called with keywords alone -/
structure MetK (P : Program) (w : World) (K : PySem.W.Frag) (mg : Str → Option Value) (base : Heap) (k : Nat) (C : Addr) (m : Str) (sp : Sp) (ks : List Str) (gV : List V → List V → List V) : Prop where
  ex : ∃ (f : Addr) (fd : FuncData) (ps : List Str) (g : List Value → List Value → List Value), Cls K C ∧ Meth K C m f ∧ FnOk P w K mg base C8.CX0 k f fd ps sp ∧ KBn K fd ps 1 ks g gV
/-- a method that may raise, called by place and with keywords -/
structure MetN (P : Program) (w : World) (K : PySem.W.Frag) (mg : Str → Option Value) (base : Heap) (k : Nat) (C : Addr) (m : Str) (sp : Sp) (ks : List Str) (gV : List V → List V → List V) : Prop where
  ex : ∃ (f : Addr) (fd : FuncData) (ps : List Str) (g : List Value → List Value → List Value), Cls K C ∧ Meth K C m f ∧ FnOk P w K mg base (L2N.CX P w) k f fd ps sp ∧ Binds K fd ps [] ∧ KBn K fd ps 1 ks g gV
/-- a class called with keywords alone -/
structure MakK (P : Program) (w : World) (K : PySem.W.Frag) (mg : Str → Option Value) (base : Heap) (k : Nat) (x : Str) (C : Addr) (sp : Sp) (ks : List Str) (gV : List V → List V → List V) : Prop where
  ex : ∃ (f : Addr) (fd : FuncData) (ps : List Str) (g : List Value → List Value → List Value), Mk K C f ∧ FnOk P w K mg base C8.CX0 k f fd ps sp ∧ mg x = some (.ref C) ∧ KBn K fd ps 1 ks g gV
section
variable {X : Cx} {k j : Nat} {C : Addr} {sp : Sp} {x m : Str} {p pos apos : Pos} {e o : Expr} {es : List Expr} {kws : List Keyword} {ta : TE} {t tk : TA} {ks : List Str} {gV : List V → List V → List V} {W : WX}
theorem pe_mtK {pl : Sem Bool} (c : MetK X.prog X.w X.K X.mg X.base k C m sp ks gV) (hr : Room j X.A) (hk : k ≤ j) (he : PE X o ta) (hkw : PK X kws tk)
    (hall : (backToKw pos (keywordEach kws X.env)).all (·.1.isSome) = true := by rfl) (hks : (backToKw pos (keywordEach kws X.env)).filterMap (·.1) = ks := by rfl)
    (hpl : ((backTo pos (starEach [] X.env)).any (·.1) || (backToKw pos (keywordEach kws X.env)).any (·.1.isNone)) = false := by rfl)
    (ht : eval (.Call (.Attribute o m apos) [] kws pos) X.env = (do
      let ov ← eval o X.env
      standAt apos.atName
      let (f, first) ← holding [ov] (getMethod ov m pl)
      callWith pos f first (backTo pos (starEach [] X.env)) (backToKw pos (keywordEach kws X.env))) := by rfl) :
    PE X (.Call (.Attribute o m apos) [] kws pos) (tMethK C m ks.length sp gV (fun _ => C8.E0) ta tk) := by
  obtain ⟨f, fd, ps, g, hc, hm, F, b⟩ := c.ex
  exact pe_methK he hc hm F (hr.mono hk) b (fun σ pins H s e s' I c => C8.pass0 (X := X) pins σ H s e s' I c) hkw hall hks hpl ht
theorem pe_mtKN {pl : Sem Bool} (c : MetN X.prog X.w X.K X.mg X.base k C m sp ks gV) (hr : Room j X.A) (hk : k ≤ j) (tk' : L2N.Takes X W) (he : PE X o ta) (hkw : PK X kws tk)
    (hall : (backToKw pos (keywordEach kws X.env)).all (·.1.isSome) = true := by rfl) (hks : (backToKw pos (keywordEach kws X.env)).filterMap (·.1) = ks := by rfl)
    (hpl : ((backTo pos (starEach [] X.env)).any (·.1) || (backToKw pos (keywordEach kws X.env)).any (·.1.isNone)) = false := by rfl)
    (ht : eval (.Call (.Attribute o m apos) [] kws pos) X.env = (do
      let ov ← eval o X.env
      standAt apos.atName
      let (f, first) ← holding [ov] (getMethod ov m pl)
      callWith pos f first (backTo pos (starEach [] X.env)) (backToKw pos (keywordEach kws X.env))) := by rfl) :
    PE X (.Call (.Attribute o m apos) [] kws pos) (tMethK C m ks.length sp gV (WE W) ta tk) := by
  obtain ⟨f, fd, ps, g, hc, hm, F, _, b⟩ := c.ex
  exact pe_methK he hc hm F (hr.mono hk) b (fun σ => L2N.passAt tk' σ) hkw hall hks hpl ht
theorem pe_mtN {pl : Sem Bool} (c : MetN X.prog X.w X.K X.mg X.base k C m sp ks gV) (hr : Room j X.A) (hk : k ≤ j) (tk' : L2N.Takes X W) (he : PE X o ta) (ha : PA X (e :: es) t)
    (hst : starEach (e :: es) X.env = (false, eval e X.env) :: starEach es X.env := by rfl) (hpl : (backTo pos (starEach es X.env)).any (·.1) = false := by rfl)
    (ht : eval (.Call (.Attribute o m apos) (e :: es) [] pos) X.env = (do
      let ov ← eval o X.env
      standAt apos.atName
      let (f, first) ← holding [ov] (getMethod ov m pl)
      callWith pos f first (backTo pos (starEach (e :: es) X.env)) (backToKw pos (keywordEach [] X.env))) := by rfl) :
    PE X (.Call (.Attribute o m apos) (e :: es) [] pos) (tMethE C m sp (WE W) ta t) := by
  obtain ⟨f, fd, ps, g, hc, hm, F, b, _⟩ := c.ex
  exact pe_methE he hc hm F (hr.mono hk) b (fun σ => L2N.passAt tk' σ) ha hst hpl ht
theorem pe_mkK (c : MakK X.prog X.w X.K X.mg X.base k x C sp ks gV) (hr : Room j X.A) (hk : k + 1 ≤ j) (hg : Gl X x) (hkw : PK X kws tk)
    (hall : (backToKw pos (keywordEach kws X.env)).all (·.1.isSome) = true := by rfl) (hks : (backToKw pos (keywordEach kws X.env)).filterMap (·.1) = ks := by rfl) (hdb : (x == ("__debug__" : Str)) = false := by decide)
    (hpl : ((backTo pos (starEach [] X.env)).any (·.1) || (backToKw pos (keywordEach kws X.env)).any (·.1.isNone)) = false := by rfl) :
    PE X (.Call (.Name x p) [] kws pos) (tMakeK C 0 ks.length sp gV C8.E0 tNil tk) := by
  obtain ⟨f, fd, ps, g, M, F, hm, b⟩ := c.ex
  exact pe_makeK0 M F (hr.mono hk) hg hm b C8.pass0 hkw hall hks hdb hpl
end
end Wk
set_option Elab.async false
set_option linter.all false
set_option maxRecDepth 100000
set_option maxHeartbeats 4000000
/-! Wk: defs with keyword-only parameters: their defaults, their names, and what they raise. -/
namespace Wk
open PySem PySem.Spec PyProof.Rows L2
/-- f(e, .., k = v, ..) that may raise -/
def tCallNS (n m : Nat) (sp : Sp) (gV : List V → List V → List V) (E : L2.St → XK) (t tk : TA) : TE := fun σ H Q => t σ H fun vs H1 => tk σ H1 fun zs H2 => vs.length = n ∧ zs.length = m ∧ sp (gV vs zs) H2 Q (E σ)
/-- a def that may raise, called by place and with keywords -/
structure CalKN (P : Program) (w : World) (K : PySem.W.Frag) (mg : Str → Option Value) (base : Heap) (k : Nat) (x : Str) (sp : Sp) (n : Nat) (ks : List Str) (gV : List V → List V → List V) : Prop where
  ex : ∃ (f : Addr) (fd : FuncData) (ps : List Str) (g : List Value → List Value → List Value), FnOk P w K mg base (L2N.CX P w) k f fd ps sp ∧ mg x = some (.ref f) ∧ PySem.W.keepIn K (.ref f) = true ∧ KBn K fd ps n ks g gV
section
variable {X : Cx} {k j n : Nat} {sp : Sp} {x : Str} {p pos : Pos} {e : Expr} {es : List Expr} {kws : List Keyword} {t tk : TA} {ks : List Str} {gV : List V → List V → List V} {W : WX}
theorem pe_ckpN (c : CalKN X.prog X.w X.K X.mg X.base k x sp n ks gV) (hr : Room j X.A) (hk : k ≤ j) (tk' : L2N.Takes X W) (hg : Gl X x) (ha : PA X (e :: es) t) (hkw : PK X kws tk)
    (hall : (backToKw pos (keywordEach kws X.env)).all (·.1.isSome) = true := by rfl) (hks : (backToKw pos (keywordEach kws X.env)).filterMap (·.1) = ks := by rfl)
    (hdb : (x == ("__debug__" : Str)) = false := by decide) (he : starEach (e :: es) X.env = (false, eval e X.env) :: starEach es X.env := by rfl)
    (hpl : ((backTo pos (starEach (e :: es) X.env)).any (·.1) || (backToKw pos (keywordEach kws X.env)).any (·.1.isNone)) = false := by rfl) :
    PE X (.Call (.Name x p) (e :: es) kws pos) (tCallNS n ks.length sp gV (WE W) t tk) := by
  obtain ⟨f, fd, ps, g, F, hm, kp, b⟩ := c.ex
  refine ⟨fun pins s σ H Q I h => ?_⟩
  refine wpAny_Call_Name_kw (ld_glob I hg hm ?_ hdb)
  refine PySem.W.callWith_KW (h₀ := X.base) I.ok.mod.kin kp hall (thn (ha.run pos pins s σ H _ I h) fun us s1 ⟨vs, H1, I1, r, q⟩ => ?_) hpl he
  refine thn (hkw.run pos pins s1 σ H1 _ I1 q) fun ws s2 ⟨zs, H2, I2, rz, l1, l2, q2⟩ => ⟨I2.kIn, ?_⟩
  rw [hks]
  exact run_kwS F (hr.mono hk) b (L2N.passAt tk' σ) I2 r rz l1 l2 q2
end
/-- the keyword-only parameters are all written -/
theorem kbnK {K : PySem.W.Frag} {x qual : Str} {params : Arguments} {body : List Stmt} {scope : Scope} {kwd : List (Str × V)} {f : Addr} {fd : FuncData} {ps ks : List Str} {n : Nat} {g : List Value → List Value → List Value} {gV : List V → List V → List V} (F : FunD K x qual params body scope [] kwd f fd)
    (hrel : ∀ {vs : List V} {us : List Value} {zs : List V} {ws : List Value}, Vals vs us → Vals zs ws → Vals (gV vs zs) (g us ws))
    (h : ∀ (kV doc pm : Value) (an : Option Addr) (cdv ct : Value) (us ws : List Value), us.length = n → ws.length = ks.length → bindArgs (PySem.W.fnOf x qual params body scope .none kV doc pm an cdv ct) ⟨us, ks.zip ws⟩ = pure (ps.zip (g us ws))) : KBn K fd ps n ks g gV := by
  obtain ⟨oc, od, dV, kV, doc, pm, an, cdv, ct, osl, rfl, lk, hcd, hD, hK⟩ := F.ex
  rcases hD with ⟨_, rfl⟩ | ⟨e, _⟩
  · exact ⟨fun s us ws _ l1 l2 => .of_eq (h kV doc pm an cdv ct us ws l1 l2), fun r1 r2 => hrel r1 r2⟩
  · exact absurd rfl e
section
variable {P : Program} {w : World} {K : PySem.W.Frag} {mg : Str → Option Value} {base : Heap}
/-- called by place alone: the keyword-only parameters have their defaults -/
theorem mkD0 {x : Str} {st : Stmt} {N ps : List Str} {kwd : List (Str × V)} {k n : Nat} {sp : Sp} (d : DefKw K mg x st kwd) (S : FnScope N ps (defScope st)) (hk : kwd ≠ []) (hn : n + kwd.length = ps.length)
    (hb : ∀ (D : Addr) (doc pm : Value) (an : Option Addr) (cdv ct : Value) (us ks : List Value), us.length = n → ks.length = kwd.length →
      KwChain D ((kwd.map (·.1)).zip ks) (bindArgs (PySem.W.fnOf x x (defArgs st) (defBody st) (defScope st) .none (.ref D) doc pm an cdv ct) ⟨us, []⟩) (ps.zip (us ++ ks)))
    (len : ∀ vs H Q E, sp vs H Q E → vs.length = ps.length)
    (body : ∀ (f : Addr) (cdv : Value) (A : Around) (outer : List Env) (s : Shared) (H : Hp) (vs : List V) (Q : VK) (E : XK), Room k (A.deeper (envOfC x (defScope st) s.heap.objs.size f cdv)) → sp vs H Q E →
      ∃ t, PSs (cxOf C8.CX0 P w K mg base N x (defScope st) f cdv A outer s H E).nox (defBody st) t ∧ t { nx := fun _ H' => Q .non H', rt := Q } (start N vs) H) : C8.Cal P w K mg base (k + 1) x sp (kwd.map (·.2)) := by
  obtain ⟨f, fd, F, hm⟩ := d
  obtain ⟨ds, r, b⟩ := F.binds0 n hk hn hb
  exact ⟨f, fd, ps, ds, F.ok S len (fun cdv A outer s H vs Q E hr hsp => let ⟨t, h, q⟩ := body f cdv A outer s H vs Q E hr hsp; ⟨t, h.nox, q⟩), hm, F.kp, b, r⟩
/-- called with names for all that is written by name -/
theorem mkKg {x : Str} {st : Stmt} {N ps ks : List Str} {kwd : List (Str × V)} {k n : Nat} {sp : Sp} (d : DefKw K mg x st kwd) (S : FnScope N ps (defScope st)) (g : {α : Type} → List α → List α → List α)
    (hrel : ∀ {vs : List V} {us : List Value} {zs : List V} {ws : List Value}, Vals vs us → Vals zs ws → Vals (g vs zs) (g us ws))
    (hb : ∀ (kV doc pm : Value) (an : Option Addr) (cdv ct : Value) (us ws : List Value), us.length = n → ws.length = ks.length → bindArgs (PySem.W.fnOf x x (defArgs st) (defBody st) (defScope st) .none kV doc pm an cdv ct) ⟨us, ks.zip ws⟩ = pure (ps.zip (g us ws)))
    (len : ∀ vs H Q E, sp vs H Q E → vs.length = ps.length)
    (body : ∀ (f : Addr) (cdv : Value) (A : Around) (outer : List Env) (s : Shared) (H : Hp) (vs : List V) (Q : VK) (E : XK), Room k (A.deeper (envOfC x (defScope st) s.heap.objs.size f cdv)) → sp vs H Q E →
      ∃ t, PSs (cxOf C8.CX0 P w K mg base N x (defScope st) f cdv A outer s H E).nox (defBody st) t ∧ t { nx := fun _ H' => Q .non H', rt := Q } (start N vs) H) : CalK P w K mg base (k + 1) x sp n ks (fun vs zs => g vs zs) := by
  obtain ⟨f, fd, F, hm⟩ := d
  exact ⟨f, fd, ps, fun us ws => g us ws, F.ok S len (fun cdv A outer s H vs Q E hr hsp => let ⟨t, h, q⟩ := body f cdv A outer s H vs Q E hr hsp; ⟨t, h.nox, q⟩), hm, F.kp, kbnK F hrel hb⟩
end
theorem hd_cons1 {c : Cell} {o : HO} {H : Hp} {L : List Cell} (h : Hd H L) (e : H c.1 = some o) (q : c.2 o) (n : ∀ d ∈ L, d.1 ≠ c.1) : Hd H (c :: L) := ⟨List.nodup_cons.mpr ⟨fun z => by
  obtain ⟨d, hd, e⟩ := List.mem_map.mp z
  exact n d hd e, h.nd⟩, fun d hd => by
  rcases List.mem_cons.mp hd with rfl | hd
  · exact ⟨o, e, q⟩
  · exact h.at_ d hd⟩
/-! ### steps -/
section
variable {K : PySem.W.Frag} {σ : L2.St} {H : Hp} {Q : VK} {L M : List Cell} {p : Addr} {xs : List V}
theorem w_callNS {n m : Nat} {sp : Sp} {gV : List V → List V → List V} {E : L2.St → XK} {t tk : TA} (h : t σ H fun vs H1 => tk σ H1 fun zs H2 => vs.length = n ∧ zs.length = m ∧ sp (gV vs zs) H2 Q (E σ)) : tCallNS n m sp gV E t tk σ H Q := h
theorem w_callS {sp : Sp} {E : L2.St → XK} {t : TA} (h : t σ H fun vs H1 => sp vs H1 Q (E σ)) : tCallS sp E t σ H Q := h
theorem g_clear (hh : Hd H L) (k : Pk L (lstC p xs) M) (q : ∀ H2, Hd H2 (lstC p [] :: M) → Q .non H2) : rClear (.ref p) [] H Q := ⟨p, xs, rfl, rfl, (hh.pk k).lst (List.mem_cons_self ..), q _ (hh.chgL k Chg.of)⟩
end
end Wk
set_option Elab.async false
set_option linter.all false
set_option maxRecDepth 100000
set_option maxHeartbeats 4000000
/-! Wk: comprehensions with a test, over enumerate; cells that are told by a list. -/
namespace Wk
open PySem PySem.Spec PyProof.Rows L2
/-! ### comprehensions -/
def KLcE (K : PySem.W.Frag) (g : TG) (tt : TT) (te : TE) (us : List Nat) (σ : L2.St) (Q : VK) (vs : List V) (H : Hp) : Prop := ∃ a xs, vs = [.ref a] ∧ SqL K H a xs ∧ KLc (Ite K a) g tt te us σ H Q
section
variable {K : PySem.W.Frag} {σ : L2.St} {H : Hp} {Q : VK} {L : List Cell} {te tl : TE} {ta : TA} {tt : TT} {g : TG} {us : List Nat} {n m : Nat} {j : Int} {a : Addr} {xs : List V}
theorem w_lcE (h : ta σ H fun vs H1 => KLcE K g tt te us σ Q vs H1) : tLc (iEnum K ta) g tt te us σ H Q := h
theorem set2_none {n m : Nat} {x y : Option V} (h : n ≠ m) : ((((((σ.set m none).set n none).set n x).set m y).set m none).set n none) = (σ.set m none).set n none := by
  refine List.ext_getElem? fun k => ?_
  simp only [List.getElem?_set, List.length_set]
  split <;> split <;> simp_all
/-- [e for i, x in enumerate(xs) if t] -/
theorem lc_E (hnm : n ≠ m) (h : SqL K H a xs) (Pv : Nat → Addr → Hp → Prop) (h0 : ∀ D H1, New H H1 D (.lst []) → Pv 0 D H1) (hl : ∀ i D H, i ≤ xs.length → Pv i D H → SqL K H a xs)
    (hs : ∀ (i : Nat) x D H H', xs[i]? = some x → Pv i D H → Upt [] H H' → tt ((((σ.set m none).set n none).set n (some (.int (i : Int)))).set m (some x)) H' fun b H3 =>
      if b = true then te ((((σ.set m none).set n none).set n (some (.int (i : Int)))).set m (some x)) H3 (KApp D (Pv (i + 1) D)) else Pv (i + 1) D H3)
    (hd : ∀ D H, Pv xs.length D H → Q (.ref D) H) : KLcE K (gTup K 2 (gCons (gName n) (gCons (gName m) gNil))) tt te [n, m] σ Q [.ref a] H := by
  refine ⟨a, xs, rfl, h, fun D hD => ?_⟩
  refine lc_it walk_enum (fun i H => Pv i D H) (h0 D _ (New.of hD)) (fun i H hi p => hl i D H hi p) (fun i x H H' hi p y => ?_) fun H p => hd D H p
  obtain ⟨T, u, v, rfl, hT, rfl, hu, hv⟩ := y
  cases hu
  have nw := New.of (H := H) (o := HO.tup [V.int (i : Int), v]) hT
  refine w_gtup (SqT.of nw.at_) rfl ?_
  refine w_gcons (w_gname (w_gcons (w_gname (w_gnil ⟨?_, ?_⟩))))
  · exact set2_none hnm
  · exact hs i v D H _ hv p nw.keep
/-- [e for k in range(m) if t] -/
theorem lc_RF (hj : j = (m : Int)) (hb : m ≤ 1000000) (Pv : Nat → Addr → Hp → Prop) (h0 : ∀ D H1, New H H1 D (.lst []) → Pv 0 D H1)
    (hs : ∀ (i : Nat) D H, i < m → Pv i D H → tt ((σ.set n none).set n (some (.int (i : Int)))) H fun b H3 => if b = true then te ((σ.set n none).set n (some (.int (i : Int)))) H3 (KApp D (Pv (i + 1) D)) else Pv (i + 1) D H3)
    (hd : ∀ D H, Pv m D H → Q (.ref D) H) : KLcR (gName n) tt te [n] σ Q [.int j] H := by
  subst hj
  refine ⟨(m : Int), rfl, by omega, by omega, fun D hD => ?_⟩
  rw [show ((m : Int)).toNat = m by simp]
  refine lc_it (walk_range (lo := 0) (n := m)) (fun i H => Pv i D H) (h0 D _ (New.of hD)) (fun _ _ _ _ => trivial) (fun i x H H' hi p y => ?_) fun H p => hd D H p
  obtain ⟨rfl, rfl⟩ := y
  simp only [Int.zero_add]
  refine w_gname ⟨?_, hs i D _ hi p⟩
  show List.set (List.set (List.set σ n none) n (some (V.int (i : Int)))) n none = List.set σ n none
  simp
/-- [e for x in xs if t] -/
theorem lc_LF (h : SqL K H a xs) (Pv : Nat → Addr → Hp → Prop) (h0 : ∀ D H1, New H H1 D (.lst []) → Pv 0 D H1) (hl : ∀ i D H, i ≤ xs.length → Pv i D H → SqL K H a xs)
    (hs : ∀ (i : Nat) x D H, xs[i]? = some x → Pv i D H → tt ((σ.set n none).set n (some x)) H fun b H3 => if b = true then te ((σ.set n none).set n (some x)) H3 (KApp D (Pv (i + 1) D)) else Pv (i + 1) D H3)
    (hd : ∀ D H, Pv xs.length D H → Q (.ref D) H) : KLcL K (gName n) tt te [n] σ Q (.ref a) H := by
  refine ⟨a, rfl, ⟨xs, h⟩, fun D hD => ?_⟩
  refine lc_it walk_list (fun i H => Pv i D H) (h0 D _ (New.of hD)) (fun i H hi p => hl i D H hi p) (fun i x H H' hi p y => ?_) fun H p => hd D H p
  obtain ⟨rfl, hx⟩ := y
  refine w_gname ⟨?_, hs i x D _ hx p⟩
  show List.set (List.set (List.set σ n none) n (some x)) n none = List.set σ n none
  simp
theorem g_lcE (hh : Hd H L) (hnm : n ≠ m) (h : SqL K H a xs) (Pv : Nat → Addr → Hp → Prop) (h0 : ∀ D H1, Hd H1 (lstC D [] :: L) → Pv 0 D H1) (hl : ∀ i D H, i ≤ xs.length → Pv i D H → SqL K H a xs)
    (hs : ∀ (i : Nat) x D H H', xs[i]? = some x → Pv i D H → Upt [] H H' → tt ((((σ.set m none).set n none).set n (some (.int (i : Int)))).set m (some x)) H' fun b H3 =>
      if b = true then te ((((σ.set m none).set n none).set n (some (.int (i : Int)))).set m (some x)) H3 (KApp D (Pv (i + 1) D)) else Pv (i + 1) D H3)
    (hd : ∀ D H, Pv xs.length D H → Q (.ref D) H) : KLcE K (gTup K 2 (gCons (gName n) (gCons (gName m) gNil))) tt te [n, m] σ Q [.ref a] H := lc_E hnm h Pv (fun D H1 nn => h0 D H1 (hh.newL nn)) hl hs hd
theorem g_lcRF (hh : Hd H L) (hj : j = (m : Int)) (hb : m ≤ 1000000) (Pv : Nat → Addr → Hp → Prop) (h0 : ∀ D H1, Hd H1 (lstC D [] :: L) → Pv 0 D H1)
    (hs : ∀ (i : Nat) D H, i < m → Pv i D H → tt ((σ.set n none).set n (some (.int (i : Int)))) H fun b H3 => if b = true then te ((σ.set n none).set n (some (.int (i : Int)))) H3 (KApp D (Pv (i + 1) D)) else Pv (i + 1) D H3)
    (hd : ∀ D H, Pv m D H → Q (.ref D) H) : KLcR (gName n) tt te [n] σ Q [.int j] H := lc_RF hj hb Pv (fun D H1 nn => h0 D H1 (hh.newL nn)) hs hd
theorem g_lcLF (hh : Hd H L) (h : SqL K H a xs) (Pv : Nat → Addr → Hp → Prop) (h0 : ∀ D H1, Hd H1 (lstC D [] :: L) → Pv 0 D H1) (hl : ∀ i D H, i ≤ xs.length → Pv i D H → SqL K H a xs)
    (hs : ∀ (i : Nat) x D H, xs[i]? = some x → Pv i D H → tt ((σ.set n none).set n (some x)) H fun b H3 => if b = true then te ((σ.set n none).set n (some x)) H3 (KApp D (Pv (i + 1) D)) else Pv (i + 1) D H3)
    (hd : ∀ D H, Pv xs.length D H → Q (.ref D) H) : KLcL K (gName n) tt te [n] σ Q (.ref a) H := lc_LF h Pv (fun D H1 nn => h0 D H1 (hh.newL nn)) hl hs hd
end
/-! ### cells that are told by a list -/
theorem Hd.subl {H : Hp} {L A : List Cell} (h : Hd H L) (s : List.Sublist A L) : Hd H A := ⟨(s.map Prod.fst).nodup h.nd, fun c hc => h.at_ c (s.subset hc)⟩
/-- the page of a slot: its list's place and its words -/
abbrev Pg := Option (Addr × List Int)
def pgV : Pg → V
  | none => .non
  | some p => .ref p.1
def pgK : Pg → List Cell
  | none => []
  | some p => [lstC p.1 (p.2.map V.int)]
def pgC (ps : List Pg) : List Cell := ps.flatMap pgK
theorem pgC_perm : ∀ {ps : List Pg} {i : Nat} (p : Pg), i < ps.length → (pgC (ps.set i p)).Perm (pgK p ++ pgC (ps.set i none))
  | q :: ps, 0, p, _ => by
    show (pgK p ++ pgC ps).Perm (pgK p ++ ([] ++ pgC ps))
    exact List.Perm.refl _
  | q :: ps, i + 1, p, h => by
    have ih := pgC_perm (ps := ps) (i := i) p (by simpa using h)
    show (pgK q ++ pgC (ps.set i p)).Perm (pgK p ++ (pgK q ++ pgC (ps.set i none)))
    refine (List.Perm.append_left _ ih).trans ?_
    rw [← List.append_assoc, ← List.append_assoc]
    exact List.Perm.append_right _ List.perm_append_comm
theorem pgC_none : ∀ {ps : List Pg} {i : Nat}, List.Sublist (pgC (ps.set i none)) (pgC ps)
  | [], _ => List.Sublist.refl _
  | q :: ps, 0 => List.sublist_append_right (pgK q) (pgC ps)
  | q :: ps, i + 1 => by
    show List.Sublist (pgK q ++ pgC (ps.set i none)) (pgK q ++ pgC ps)
    exact List.Sublist.append (List.Sublist.refl _) pgC_none
theorem pgC_mem {ps : List Pg} {i : Nat} {a : Addr} {ws : List Int} (h : ps[i]? = some (some (a, ws))) : lstC a (ws.map V.int) ∈ pgC ps :=
  List.mem_flatMap.mpr ⟨some (a, ws), List.mem_of_getElem? h, List.mem_singleton.mpr rfl⟩
section
variable {H H' : Hp} {L R : List Cell} {ps : List Pg} {i : Nat} {a : Addr} {ws vs : List Int}
/-- a new page stands in slot i -/
theorem Hd.pgNew (h : Hd H (lstC a (ws.map V.int) :: (pgC ps ++ R))) (hi : i < ps.length) : Hd H (pgC (ps.set i (some (a, ws))) ++ R) := by
  refine Hd.perm (Hd.subl h (List.Sublist.cons₂ _ (List.Sublist.append (pgC_none (i := i)) (List.Sublist.refl R)))) ?_
  exact ((pgC_perm (some (a, ws)) hi).append_right R).symm
/-- the page of slot i, by itself -/
theorem Hd.pgGet (h : Hd H (pgC ps ++ R)) (hp : ps[i]? = some (some (a, ws))) : Hd H (lstC a (ws.map V.int) :: (pgC (ps.set i none) ++ R)) := by
  have hi := (List.getElem?_eq_some_iff.mp hp).1
  have e : ps.set i (some (a, ws)) = ps := by
    obtain ⟨_, e⟩ := List.getElem?_eq_some_iff.mp hp
    rw [← e, List.set_getElem_self]
  have h2 : Hd H (pgC (ps.set i (some (a, ws))) ++ R) := by rw [e]; exact h
  exact Hd.perm h2 ((pgC_perm (some (a, ws)) hi).append_right R)
theorem Hd.pgPut (h : Hd H (lstC a (ws.map V.int) :: (pgC (ps.set i none) ++ R))) (hi : i < ps.length) : Hd H (pgC (ps.set i (some (a, ws))) ++ R) :=
  Hd.perm h ((pgC_perm (some (a, ws)) hi).append_right R).symm
end
end Wk
set_option Elab.async false
set_option linter.all false
set_option maxRecDepth 100000
set_option maxHeartbeats 4000000
/-! Wk: a def that may raise, called by keywords alone. -/
namespace Wk
open PySem PySem.Spec PyProof.Rows L2
def tCallKS (m : Nat) (sp : Sp) (gV : List V → List V → List V) (E : L2.St → XK) (tk : TA) : TE := fun σ H Q => tk σ H fun zs H2 => zs.length = m ∧ sp (gV [] zs) H2 Q (E σ)
section
variable {X : Cx} {k j : Nat} {sp : Sp} {x : Str} {p pos : Pos} {kws : List Keyword} {tk : TA} {ks : List Str} {gV : List V → List V → List V} {W : WX}
theorem pe_ckN (c : CalKN X.prog X.w X.K X.mg X.base k x sp 0 ks gV) (hr : Room j X.A) (hk : k ≤ j) (tk' : L2N.Takes X W) (hg : Gl X x) (hkw : PK X kws tk)
    (hall : (backToKw pos (keywordEach kws X.env)).all (·.1.isSome) = true := by rfl) (hks : (backToKw pos (keywordEach kws X.env)).filterMap (·.1) = ks := by rfl)
    (hdb : (x == ("__debug__" : Str)) = false := by decide)
    (hpl : ((backTo pos (starEach [] X.env)).any (·.1) || (backToKw pos (keywordEach kws X.env)).any (·.1.isNone)) = false := by rfl) :
    PE X (.Call (.Name x p) [] kws pos) (tCallKS ks.length sp gV (WE W) tk) := by
  obtain ⟨f, fd, ps, g, F, hm, kp, b⟩ := c.ex
  refine ⟨fun pins s σ H Q I h => ?_⟩
  refine wpAny_Call_Name_kw (ld_glob I hg hm ?_ hdb)
  refine PySem.W.callWith_KW0 (h₀ := X.base) I.ok.mod.kin kp hall ?_ hpl
  refine thn (hkw.run pos pins s σ H _ I h) fun ws s2 ⟨zs, H2, I2, rz, l2, q2⟩ => ⟨I2.kIn, ?_⟩
  rw [hks]
  exact run_kwS F (hr.mono hk) b (L2N.passAt tk' σ) I2 .nil rz rfl l2 q2
end
end Wk
set_option Elab.async false
set_option linter.all false
set_option maxRecDepth 100000
set_option maxHeartbeats 4000000
/-! Wk: max(xs, key=x.m), x.m a method of an own class that changes nothing: the first of the greatest. -/
namespace Wk
open PySem PySem.Spec PyProof.Rows L2
/-- the first one of the greatest -/
def FstMax (n : Nat) (kf : Nat → Int) (i : Nat) : Prop := ∀ j, j < n → kf i ≥ kf j ∧ (j < i → kf i > kf j)
def rMaxK (K : PySem.W.Frag) (g : Addr) (sp : Sp) : List V → List V → Hp → VK → Prop := fun vs zs H Q =>
  ∃ (a q self : Addr) (xs : List V) (kf : Nat → Int), vs = [.ref a] ∧ zs = [.ref q] ∧ SqL K H a xs ∧ 0 < xs.length ∧ H q = some (.met g self) ∧
    (∀ (i : Nat) (v : V), xs[i]? = some v → ∀ Q' : VK, Q' (.int (kf i)) H → sp [.ref self, v] H Q' (fun _ _ _ => False)) ∧
    ∀ (i : Nat) (v : V), xs[i]? = some v → FstMax xs.length kf i → Q v H
section
variable {X : Cx} {pins : List (Addr × Obj)} {σ : L2.St} {H : Hp} {k : Nat} {g a q self I S : Addr} {sp : Sp} {xs : List V} {kf : Nat → Int} {Q : VK}
/-- the key's call -/
theorem key_turn {pn : List (Addr × Obj)} {s : Shared} {v : V} {u : Value} {n : Int} (F : FnR X.prog X.w X.K X.mg X.base C8.CX0 k g sp) (hr : Room (k + 1) X.A) (J : Inv X pn σ H s) (hq : H q = some (.met g self)) (r : RelV v u)
    (hs : ∀ Q' : VK, Q' (.int n) H → sp [.ref self, v] H Q' (fun _ _ _ => False)) :
    wpAny (model X.prog X.w) X.A.in1 (call (.ref q) [u]) (fun y s' => (∃ t, y = .int n t) ∧ Inv X pn σ H s') (fun _ _ => False) s := by
  refine wpAny_call (PySem.W.method_call (J.hok q _ hq) (codeAny_mono (F X.A.in1 X.stack s H [.ref self, u] [.ref self, v] (fun y H' => y = .int n ∧ H' = H) (fun _ _ _ => False) hr.in1 ⟨J.env0.frames, J.env0.mod, J.env0.bs, J.env0.bsz, J.env0.funs, J.env0.frf, J.env0.hok, J.env0.bare⟩ (.cons rfl (.cons r .nil)) (hs _ ⟨rfl, rfl⟩)) fun r s' hq => ?_))
  cases r with
  | error e => exact False.elim hq
  | ok fl =>
    cases fl with
    | ret y =>
      have h2 : EP X pn σ (fun y H' => y = .int n ∧ H' = H) y s' := J.after hq
      obtain ⟨v', H', J', r', rfl, rfl⟩ := h2
      exact ⟨r', J'⟩
    | next => exact False.elim hq
    | brk => exact False.elim hq
    | cont => exact False.elim hq
def RmaxE (X : Cx) (pins : List (Addr × Obj)) (σ : L2.St) (Q : VK) (r : Result) (s' : Shared) : Prop := match r with
  | .ok (.ret v) => EP X pins σ Q v s'
  | .ok _ => False
  | .error e => X.xe e s'
theorem off_iter {s : Shared} {its : Array Value} {n : Nat} {l : Addr} (h : PlainL s.heap a its) (hi : s.heap.IsListIter I l n) : a ≠ I := by
  rintro rfl
  obtain ⟨o, m, e, c, _⟩ := h
  obtain ⟨o', e', c', _⟩ := hi
  rw [e] at e'
  cases e'
  rw [c] at c'
  exact absurd c' (by decide)
theorem max_loop (F : FnR X.prog X.w X.K X.mg X.base C8.CX0 k g sp) (hr : Room (k + 1) X.A) (hS : SqL X.K H a xs) (hq : H q = some (.met g self)) (hSI : S ≠ I)
    (hs : ∀ (i : Nat) (v : V), xs[i]? = some v → ∀ Q' : VK, Q' (.int (kf i)) H → sp [.ref self, v] H Q' (fun _ _ _ => False))
    (hQ : ∀ (i : Nat) (v : V), xs[i]? = some v → FstMax xs.length kf i → Q v H) :
    ∀ (r j i : Nat) (s : Shared) (vb : Value) (y : V) (tb : Tok) (c : Nat), xs.length - (j + 1) = r → j + 1 ≤ xs.length → Inv X pins σ H s → FpOk X pins H I → FpOk X pins H S →
      s.heap.get? S = some (seqObj "list" #[vb, .int (kf i) tb] c) → s.heap.IsListIter I a (j + 1) → xs[i]? = some y → RelV y vb → i ≤ j → (∀ j', j' ≤ j → kf i ≥ kf j' ∧ (j' < i → kf i > kf j')) →
      codeAny (model X.prog X.w) X.A (.builtin "max.loop" ⟨[.ref I, .ref q, .ref S], []⟩) (RmaxE X pins σ Q) s := by
  have hname : (toString "max" ++ toString ".loop" : String) = "max.loop" := by decide
  have hh : X.A.in1.handled = none := hr.hd
  intro r
  induction r with
  | zero =>
    intro j i s vb y tb c er hj J fI fS nS hit hy ry hij hbest
    have hin : j + 1 = xs.length := by omega
    obtain ⟨its, rv, pl, hz⟩ := J.list hS
    have hsz : its.toArray.size = xs.length := by rw [List.size_toArray, rv.length]
    have haI := off_iter pl hit
    have W := Walks.list (prog := X.prog) (w := X.w) (A := X.A.in1) hh I a haI its.toArray
    refine codeAny_builtin PySem.F.entry_max_loop ?_
    rw [Around.under_plainId PySem.F.plain_max_loop _]
    show wpAny _ X.A.in1 (seqItems? (.ref S) >>= _) _ _ _
    refine wpAny_bind (wpAny_seqItems nS rfl ?_)
    show wpAny _ X.A.in1 (tryCatch (pyNext (.ref I)) _ >>= _) _ _ _
    refine wpAny_bind (wpAny_tryCatch (W.done _ _ _ ⟨by rw [hsz, ← hin]; exact hit, pl.isList⟩ fun h' tk' hk' => ?_))
    have J1 : Inv X pins σ H { s with heap := h', toks := tk' } := J.turnedL (ch := [I]) hk' fun b hb => by rw [List.mem_singleton.mp hb]; exact fI
    have hS' := hk' S _ (by simpa using hSI) nS
    have s1 := Heap.SameBut.update h' S (Obj.mapSeq fun _ => (#[] : Array Value))
    show wpAny _ X.A.in1 (updateSeq S (fun _ => #[]) >>= _) _ _ _
    refine wpAny_bind ?_
    refine wpAny_updateSeq hS' rfl (wpAny_bind (wpAny_letGo (wpAny_pure ?_)))
    exact ⟨y, H, J1.turnedL (ch := [S]) (fun b o hb e => (s1.2 b (fun z => hb (List.mem_singleton.mpr z))).trans e) (fun b hb => by rw [List.mem_singleton.mp hb]; exact fS), ry, hQ i y hy fun j' hj' => hbest j' (by omega)⟩
  | succ r ih =>
    intro j i s vb y tb c er hj J fI fS nS hit hy ry hij hbest
    have hlt : j + 1 < xs.length := by omega
    obtain ⟨its, rv, pl, hz⟩ := J.list hS
    have hsz : its.toArray.size = xs.length := by rw [List.size_toArray, rv.length]
    have haI := off_iter pl hit
    have W := Walks.list (prog := X.prog) (w := X.w) (A := X.A.in1) hh I a haI its.toArray
    refine codeAny_builtin PySem.F.entry_max_loop ?_
    rw [Around.under_plainId PySem.F.plain_max_loop _]
    show wpAny _ X.A.in1 (seqItems? (.ref S) >>= _) _ _ _
    refine wpAny_bind (wpAny_seqItems nS rfl ?_)
    show wpAny _ X.A.in1 (tryCatch (pyNext (.ref I)) _ >>= _) _ _ _
    refine wpAny_bind (wpAny_tryCatch (W.item (j + 1) _ _ _ (by rw [hsz]; exact hlt) ⟨hit, pl.isList⟩ fun v h' tk' hP hst' hk' => ?_))
    have hv : its[j + 1]? = some v := by simpa using hP
    have hx : xs[j + 1]? = some xs[j + 1] := List.getElem?_eq_getElem hlt
    obtain ⟨v', hv', rxv⟩ := rv.get hx
    rw [hv] at hv'
    cases hv'
    obtain ⟨oI', hoI', hoc, hod⟩ := id hst'.1
    have J1 : Inv X pins σ H { s with heap := h', toks := tk' } := J.turnedL (ch := [I]) hk' fun b hb => by rw [List.mem_singleton.mp hb]; exact fI
    have nS1 := hk' S _ (by simpa using hSI) nS
    have J2 : Inv X (pins ++ [(S, seqObj "list" #[vb, .int (kf i) tb] c), (I, oI')]) σ H { s with heap := h', toks := tk' } := J1.pins_of fun p hp => by
      rcases List.mem_append.mp hp with hp | hp
      · exact J1.pin p (List.mem_append_right _ hp)
      · rcases List.mem_cons.mp hp with rfl | hp
        · exact ⟨nS1, fS.1, fS.2.1, fS.2.2.1, fun v e => by cases e⟩
        · rw [List.mem_singleton.mp hp]
          exact ⟨hoI', fI.1, fI.2.1, fI.2.2.1, fun v e => by rw [hod] at e; cases e⟩
    show wpAny _ X.A.in1 (tryCatch (holding [v] (call (.ref q) [v])) _ >>= _) _ _ _
    refine wpAny_bind (wpAny_tryCatch (wpAny_holding (wpAny_mono (key_turn F hr J2 hq rxv (hs (j + 1) _ hx)) (fun x s2 he => ?_) fun _ _ hF => hF.elim)))
    obtain ⟨⟨t2, rfl⟩, J3⟩ := he
    have nS2 := (J3.pin (S, seqObj "list" #[vb, .int (kf i) tb] c) (List.mem_append_right _ (List.mem_append_right _ (List.mem_cons_self ..)))).1
    have nI2 := (J3.pin (I, oI') (List.mem_append_right _ (List.mem_append_right _ (List.mem_cons_of_mem _ (List.mem_cons_self ..))))).1
    have J4 : Inv X pins σ H s2 := J3.unpinned
    have hit2 : s2.heap.IsListIter I a (j + 1 + 1) := ⟨oI', nI2, hoc, hod⟩
    show wpAny _ X.A.in1 (tryCatch (holding [v, .int (kf (j + 1)) t2] (richCompare .Gt (.int (kf (j + 1)) t2) (.int (kf i) tb) >>= _)) _ >>= _) _ _ _
    refine wpAny_bind (wpAny_tryCatch (wpAny_holding (wpAny_bind (CmpOf.ints_gt (prog := X.prog) (w := X.w) (A := X.A.in1) (P := fun i v => ∃ t, v = .int (kf i) t) kf (fun i v h => h) (j + 1) i _ _ _ _ _ ⟨t2, rfl⟩ ⟨tb, rfl⟩ ?_))))
    refine wpAny_bind (wpAny_holding (wpAny_truthy_bool ?_))
    refine wpAny_bind (wpAny_letGo (wpAny_pure ?_))
    by_cases hb' : kf (j + 1) > kf i
    · have s1 := Heap.SameBut.update s2.heap S (Obj.mapSeq fun _ => #[v, .int (kf (j + 1)) t2])
      obtain ⟨c2, hc2⟩ : ∃ c2, (s2.heap.update S (Obj.mapSeq fun _ => #[v, .int (kf (j + 1)) t2])).get? S = some (seqObj "list" #[v, .int (kf (j + 1)) t2] c2) := ⟨_, get?_update_seq nS2 fun _ => #[v, .int (kf (j + 1)) t2]⟩
      simp only [hb', decide_true, if_true]
      refine wpAny_bind ?_
      refine wpAny_updateSeq nS2 rfl (wpAny_bind (wpAny_letGo ?_))
      rw [hname]
      refine wpAny_pure ⟨plainId_quiet PySem.F.plain_max_loop _, ih (j + 1) (j + 1) _ v _ t2 c2 (by omega) hlt (J4.turnedL (ch := [S]) (fun b o hb e => (s1.2 b (fun z => hb (List.mem_singleton.mpr z))).trans e) (fun b hb => by rw [List.mem_singleton.mp hb]; exact fS)) fI fS hc2 ⟨oI', (s1.2 I hSI.symm).trans nI2, hoc, hod⟩ hx rxv (Nat.le_refl _) fun j' hj' => ?_⟩
      by_cases e : j' = j + 1
      · subst e
        exact ⟨by omega, fun _ => by omega⟩
      · have hb1 := hbest j' (by omega)
        have hb2 := hb1.1
        exact ⟨by omega, fun _ => by omega⟩
    · simp only [hb', decide_false, Bool.false_eq_true, if_false]
      refine wpAny_bind (wpAny_letGo ?_)
      rw [hname]
      refine wpAny_pure ⟨plainId_quiet PySem.F.plain_max_loop _, ih (j + 1) i _ vb y tb c (by omega) hlt J4 fI fS nS2 hit2 hy ry (by omega) fun j' hj' => ?_⟩
      by_cases e : j' = j + 1
      · subst e
        exact ⟨by omega, fun _ => by omega⟩
      · exact hbest j' (by omega)
theorem cr_maxK (F : FnR X.prog X.w X.K X.mg X.base C8.CX0 k g sp) (hr : Room (k + 1) X.A) : CallRK X (.builtin "max") [Str.ofString "key"] (rMaxK X.K g sp) := by
  intro pins s σ H vs zs us ws Q I0 r rz h
  obtain ⟨a, q, self, xs, kf, rfl, rfl, hS, h0, hq, hs, hQ⟩ := h
  obtain rfl := Vals.ref1 r
  obtain ⟨w1, rfl, e1⟩ := vals1 rz
  obtain rfl : w1 = Value.ref q := by cases e1; rfl
  have hname : (toString "max" ++ toString ".loop" : String) = "max.loop" := by decide
  have hh : X.A.in1.handled = none := hr.hd
  obtain ⟨its, rv, pl, hz⟩ := I0.list hS
  have hls := pl.isList
  have hsz : its.toArray.size = xs.length := by rw [List.size_toArray, rv.length]
  refine kmk_tree PySem.F.kind_max PySem.F.plain_max PySem.F.entry_max (kmk_max_key _ _) ?_
  show wpAny _ X.A.in1 (Builtin.Builtins.bindParams "max" ["key", "default"] 0 ⟨[], [(Str.ofString "key", .ref q)]⟩ >>= _) _ _ s
  refine wpAny_bind (wpAny_of_eq (show Builtin.Builtins.bindParams "max" ["key", "default"] 0 ⟨[], [(Str.ofString "key", .ref q)]⟩ = pure [some (.ref q), none] from rfl) ?_)
  refine wpAny_bind (wpAny_pure ?_)
  refine wpAny_bind (wpAny_pyIter_list hls ?_)
  refine wpAny_bind (wpAny_newList ?_ (Nat.zero_le _))
  rw [hname]
  have hS2 : (s.heap.push { cls := .type "list_iterator", data := .fields #[.ref a, .int 0 0] }).objs.size = s.heap.objs.size + 1 := size_push' ..
  have hSI : (s.heap.push { cls := .type "list_iterator", data := .fields #[.ref a, .int 0 0] }).objs.size ≠ s.heap.objs.size := by rw [hS2]; exact Nat.ne_of_gt (Nat.lt_succ_self _)
  refine wpAny_pure ⟨plainId_quiet PySem.F.plain_max_loop _, ?_⟩
  have gI : ((s.heap.push { cls := .type "list_iterator", data := .fields #[.ref a, .int 0 0] }).push (seqObj "list" #[] 0)).get? s.heap.objs.size = some { cls := .type "list_iterator", data := .fields #[.ref a, .int 0 0] } :=
    Heap.get?_push_of_some _ (Heap.get?_push_size _ rfl)
  have gS : ((s.heap.push { cls := .type "list_iterator", data := .fields #[.ref a, .int 0 0] }).push (seqObj "list" #[] 0)).get? (s.heap.push { cls := .type "list_iterator", data := .fields #[.ref a, .int 0 0] }).objs.size = some (seqObj "list" #[] 0) := Heap.get?_push_size _ rfl
  have fI : FpOk X pins H s.heap.objs.size := I0.fpOk (Nat.le_refl _) (I0.hok.fresh (Nat.le_refl _))
  have fS : FpOk X pins H (s.heap.push { cls := .type "list_iterator", data := .fields #[.ref a, .int 0 0] }).objs.size := I0.fpOk (by rw [hS2]; exact Nat.le_succ _) (I0.hok.fresh (by rw [hS2]; exact Nat.le_succ _))
  generalize (s.heap.push { cls := .type "list_iterator", data := .fields #[.ref a, .int 0 0] }).objs.size = S at gS hSI fS ⊢
  generalize hI : s.heap.objs.size = I at gI hSI fI ⊢
  have J0 : Inv X pins σ H { s with heap := (s.heap.push { cls := .type "list_iterator", data := .fields #[.ref a, .int 0 0] }).push (seqObj "list" #[] 0) } := I0.kept (t' := s.toks) fun b u e => Heap.get?_push_of_some _ (Heap.get?_push_of_some _ e)
  have pl2 : PlainL ((s.heap.push { cls := .type "list_iterator", data := .fields #[.ref a, .int 0 0] }).push (seqObj "list" #[] 0)) a its.toArray := pl.at fun o e => Heap.get?_push_of_some _ (Heap.get?_push_of_some _ e)
  have haI : a ≠ I := by rw [← hI]; exact Nat.ne_of_lt pl.lt
  have W := Walks.list (prog := X.prog) (w := X.w) (A := X.A.in1) hh I a haI its.toArray
  refine codeAny_builtin PySem.F.entry_max_loop ?_
  rw [Around.under_plainId PySem.F.plain_max_loop _]
  show wpAny _ X.A.in1 (seqItems? (.ref S) >>= _) _ _ _
  refine wpAny_bind (wpAny_seqItems gS rfl ?_)
  show wpAny _ X.A.in1 (tryCatch (pyNext (.ref I)) _ >>= _) _ _ _
  refine wpAny_bind (wpAny_tryCatch (W.item 0 _ _ _ (by rw [hsz]; exact h0) ⟨⟨_, gI, rfl, rfl⟩, pl2.isList⟩ fun v h' tk' hP hst' hk' => ?_))
  have hv : its[0]? = some v := by simpa using hP
  have hx : xs[0]? = some xs[0] := List.getElem?_eq_getElem h0
  obtain ⟨v', hv', rxv⟩ := rv.get hx
  rw [hv] at hv'
  cases hv'
  obtain ⟨oI', hoI', hoc, hod⟩ := id hst'.1
  have J1 : Inv X pins σ H { s with heap := h', toks := tk' } := Inv.turnedL (s := { s with heap := (s.heap.push { cls := .type "list_iterator", data := .fields #[.ref a, .int 0 0] }).push (seqObj "list" #[] 0) }) (h' := h') (t' := tk') (ch := [I]) J0 hk' fun b hb => by rw [List.mem_singleton.mp hb]; exact fI
  have nS1 := hk' S _ (by simpa using hSI) gS
  have J2 : Inv X (pins ++ [(S, seqObj "list" #[] 0), (I, oI')]) σ H { s with heap := h', toks := tk' } := J1.pins_of fun p hp => by
    rcases List.mem_append.mp hp with hp | hp
    · exact J1.pin p (List.mem_append_right _ hp)
    · rcases List.mem_cons.mp hp with rfl | hp
      · exact ⟨nS1, fS.1, fS.2.1, fS.2.2.1, fun v e => by cases e⟩
      · rw [List.mem_singleton.mp hp]
        exact ⟨hoI', fI.1, fI.2.1, fI.2.2.1, fun v e => by rw [hod] at e; cases e⟩
  show wpAny _ X.A.in1 (tryCatch (holding [v] (call (.ref q) [v])) _ >>= _) _ _ _
  refine wpAny_bind (wpAny_tryCatch (wpAny_holding (wpAny_mono (key_turn F hr J2 hq rxv (hs 0 _ hx)) (fun x s2 he => ?_) fun _ _ hF => hF.elim)))
  obtain ⟨⟨t2, rfl⟩, J3⟩ := he
  have nS2 := (J3.pin (S, seqObj "list" #[] 0) (List.mem_append_right _ (List.mem_append_right _ (List.mem_cons_self ..)))).1
  have nI2 := (J3.pin (I, oI') (List.mem_append_right _ (List.mem_append_right _ (List.mem_cons_of_mem _ (List.mem_cons_self ..))))).1
  have J4 : Inv X pins σ H s2 := J3.unpinned
  have s1 := Heap.SameBut.update s2.heap S (Obj.mapSeq fun _ => #[v, .int (kf 0) t2])
  obtain ⟨c2, hc2⟩ : ∃ c2, (s2.heap.update S (Obj.mapSeq fun _ => #[v, .int (kf 0) t2])).get? S = some (seqObj "list" #[v, .int (kf 0) t2] c2) := ⟨_, get?_update_seq nS2 fun _ => #[v, .int (kf 0) t2]⟩
  show wpAny _ X.A.in1 (updateSeq S (fun _ => #[v, .int (kf 0) t2]) >>= _) _ _ _
  refine wpAny_bind ?_
  refine wpAny_updateSeq nS2 rfl ?_
  rw [hname]
  refine wpAny_pure ⟨plainId_quiet PySem.F.plain_max_loop _, max_loop F hr hS hq hSI hs hQ _ 0 0 _ v _ t2 c2 rfl h0 (J4.turnedL (ch := [S]) (fun b o hb e => (s1.2 b (fun z => hb (List.mem_singleton.mpr z))).trans e) (fun b hb => by rw [List.mem_singleton.mp hb]; exact fS)) fI fS hc2 ⟨oI', (s1.2 I hSI.symm).trans nI2, hoc, hod⟩ hx rxv (Nat.le_refl _) fun j' hj' => ?_⟩
  have e : j' = 0 := by omega
  subst e
  exact ⟨by omega, fun h => absurd h (Nat.lt_irrefl _)⟩
end
end Wk
set_option Elab.async false
set_option linter.all false
set_option maxRecDepth 100000
set_option maxHeartbeats 4000000
/-! Wk: x in o by an own __contains__; x.m as a value. -/
namespace Wk
open PySem PySem.Spec PyProof.Rows L2
def rInOwn (C : Addr) (sp : Sp) : R2 := fun x y H Q => ∃ a dx fs, y = .ref a ∧ H a = some (.ins C dx fs) ∧ sp [.ref a, x] H (fun v H' => ∃ b, v = .bl b ∧ Q (.bl b) H') C8.E0
section
variable {X : Cx} {k j : Nat} {C : Addr} {sp : Sp}
theorem contains_own {pins : List (Addr × Obj)} {s : Shared} {σ : L2.St} {H : Hp} {x : V} {v : Value} {a dx : Addr} {fs : List (Str × V)} {R : Bool → Hp → Prop} {QQ : Bool → Shared → Prop} (c : C8.Met X.prog X.w X.K X.mg X.base k C "__contains__" sp []) (hr : Room j X.A) (hk : k ≤ j) (I : Inv X pins σ H s) (rx : RelV x v) (e : H a = some (.ins C dx fs))
    (q : sp [.ref a, x] H (fun v H' => ∃ b, v = .bl b ∧ R b H') C8.E0) (hQ : ∀ b H' s', Inv X pins σ H' s' → R b H' → QQ b s') : wpAny (model X.prog X.w) X.A (contains (.ref a) v) QQ X.xe s := by
  obtain ⟨f, fd, ps, ds, hc, hm, F, b, d⟩ := c.ex
  obtain ⟨mA, O, _, _, _, _⟩ := ins_get I.hok e
  obtain ⟨od, J, hl⟩ := O.look
  have ht : PySem.W.typeIn X.K (.ref f) = some (.type "function") := beq_iff_eq.mp hm.fn
  have sp1 : ∀ {Q' : Option Value → Shared → Prop} {s1 : Shared}, s1.heap = s.heap → Q' (some (.ref f)) s1 → wpAny (model X.prog X.w) X.A (specialOf (.ref a) "__contains__") Q' X.xe s1 := fun {Q' s1} eh h => by
    have X' : X.K.In s1.heap := by rw [eh]; exact I.kIn
    obtain ⟨ox, J'⟩ : ∃ ox, PySem.W.InstAt s1.heap a ox C od := ⟨_, by rw [eh]; exact J⟩
    unfold specialOf
    exact wpAny_bind (J'.type.here ((PySem.W.looks_findIn X' hm.at_).here h))
  unfold contains
  refine wpAny_holding ?_
  show wpAny _ _ (specialOf (.ref a) "__contains__" >>= _) _ _ _
  refine wpAny_bind (sp1 rfl ?_)
  rw [if_neg (by intro h; cases h)]
  try refine wpAny_bind (wpAny_pure ?_)
  unfold callSpecialUnlessNone?
  refine wpAny_bind ?_
  refine wpAny_bind (sp1 rfl ?_)
  refine wpAny_holding ?_
  refine wpAny_bind ((PySem.W.bind_fn I.kIn _ ht).here ?_)
  dsimp only
  rw [if_neg (by intro h; cases h)]
  try refine wpAny_bind (wpAny_pure ?_)
  refine wpAny_bind ?_
  refine wpAny_mono (run_fn F (hr.mono hk) b d C8.pass0 I (us := [.ref a, v]) (vs := [.ref a, x]) (.cons rfl (.cons rx .nil)) q) (fun u s' he => ?_) fun _ _ h => h
  obtain ⟨w, H', I', rw', bb, rfl, hR⟩ := he
  have eu : u = .bool bb := by cases rw'; rfl
  subst eu
  refine wpAny_pure ?_
  exact wpAny_truthy_bool (hQ bb H' s' I' hR)
theorem op_in_own (c : C8.Met X.prog X.w X.K X.mg X.base k C "__contains__" sp []) (hr : Room j X.A) (hk : k ≤ j) : OpR X (compareOp .In) (rInOwn C sp) := by
  intro pins s σ H x y v u Q I rx ry h
  obtain ⟨a, dx, fs, rfl, e, q⟩ := h
  cases ry
  show wpAny _ _ (contains (.ref a) v >>= _) _ _ _
  refine wpAny_bind (contains_own c hr hk I rx e q fun b H' s' I' hq => ?_)
  exact wpAny_pure ⟨.bl b, H', I', rfl, hq⟩
/-- o.m as a value -/
def tBnd (C : Addr) (m : Str) (g : Addr) (ta : TE) : TE := fun σ H Q => ta σ H fun x H1 => ∃ a dx fs, x = .ref a ∧ H1 a = some (.ins C dx fs) ∧ fs.lookup m = none ∧ ∀ p, H1 p = none → Q (.ref p) (upd H1 p (.met g a))
theorem pe_bnd {o : Expr} {m : Str} {g : Addr} {ta : TE} {pos : Pos} (c : Cls X.K C) (k : BMeth X.K C m g) (he : PE X o ta) (hab : attributeBase o m X.env (eval o X.env) = eval o X.env := by rfl) : PE X (.Attribute o m pos) (tBnd C m g ta) := by
  refine ⟨fun pins s σ H Q I h => ?_⟩
  refine attr_of hab (thn (he.run pins s σ H _ I h) fun u s1 ⟨x, H1, I1, rx, a, dx, fs, ex, ea, l, q⟩ => ?_)
  subst ex
  exact op_getbound I1 ea c k l rx q
end
end Wk
set_option Elab.async false
set_option linter.all false
set_option maxRecDepth 100000
set_option maxHeartbeats 4000000
/-! Wk: o.m(e, .., k = v): a method called by place and by name; methods with defaults of both kinds. -/
namespace Wk
open PySem PySem.Spec PyProof.Rows L2
structure MetP (P : Program) (w : World) (K : PySem.W.Frag) (mg : Str → Option Value) (base : Heap) (k : Nat) (C : Addr) (m : Str) (sp : Sp) (n : Nat) (ks : List Str) (gV : List V → List V → List V) : Prop where
  ex : ∃ (f : Addr) (fd : FuncData) (ps : List Str) (g : List Value → List Value → List Value), Cls K C ∧ Meth K C m f ∧ FnOk P w K mg base C8.CX0 k f fd ps sp ∧ KBn K fd ps (n + 1) ks g gV
def tMethP (C : Addr) (m : Str) (n nk : Nat) (sp : Sp) (gV : List V → List V → List V) (E : XK) (ta : TE) (t tk : TA) : TE := fun σ H Q => ta σ H fun x H1 => ∃ a dx fs, x = .ref a ∧ H1 a = some (.ins C dx fs) ∧ fs.lookup m = none ∧ t σ H1 fun vs H2 => tk σ H2 fun zs H3 => vs.length = n ∧ zs.length = nk ∧ sp (gV (x :: vs) zs) H3 Q E
section
variable {X : Cx} {k j n : Nat} {C : Addr} {m : Str} {sp : Sp} {ks : List Str} {gV : List V → List V → List V} {o e : Expr} {es : List Expr} {kws : List Keyword} {ta : TE} {t tk : TA} {pos apos : Pos}
theorem pe_mtP {pl : Sem Bool} (c : MetP X.prog X.w X.K X.mg X.base k C m sp n ks gV) (hr : Room j X.A) (hk : k ≤ j) (he : PE X o ta) (ha : PA X (e :: es) t) (hkw : PK X kws tk)
    (hall : (backToKw pos (keywordEach kws X.env)).all (·.1.isSome) = true := by rfl) (hks : (backToKw pos (keywordEach kws X.env)).filterMap (·.1) = ks := by rfl)
    (hst : starEach (e :: es) X.env = (false, eval e X.env) :: starEach es X.env := by rfl)
    (hpl : ((backTo pos (starEach (e :: es) X.env)).any (·.1) || (backToKw pos (keywordEach kws X.env)).any (·.1.isNone)) = false := by rfl)
    (ht : eval (.Call (.Attribute o m apos) (e :: es) kws pos) X.env = (do
      let ov ← eval o X.env
      standAt apos.atName
      let (f, first) ← holding [ov] (getMethod ov m pl)
      callWith pos f first (backTo pos (starEach (e :: es) X.env)) (backToKw pos (keywordEach kws X.env))) := by rfl) :
    PE X (.Call (.Attribute o m apos) (e :: es) kws pos) (tMethP C m n ks.length sp gV C8.E0 ta t tk) := by
  obtain ⟨f, fd, ps, g, hc, hm, F, b⟩ := c.ex
  refine ⟨fun pins s σ H Q I h => ?_⟩
  refine PySem.W.methodCall_KW (pl := pl) (thn (he.run pins s σ H _ I h) fun u s1 ⟨x, H1, I1, rx, a, dx, fs, ex, ea, l, q⟩ => ?_) ht
  subst ex
  obtain rfl : u = Value.ref a := rx
  refine getmeth_ok I1 ea hc hm l ?_
  refine PySem.W.callWith_KW (first := [.ref a]) (h₀ := X.base) I.ok.mod.kin hm.kp hall (thn (ha.run pos pins s1 σ H1 _ I1 q) fun us s2 ⟨vs, H2, I2, r, q2⟩ => ?_) hpl hst
  refine thn (hkw.run pos pins s2 σ H2 _ I2 q2) fun ws s3 ⟨zs, H3, I3, rz, l1, l2, q3⟩ => ⟨I3.kIn, ?_⟩
  rw [hks]
  exact run_fnN (us := .ref a :: us) (vs := .ref a :: vs) F (hr.mono hk) b C8.pass0 I3 (.cons rfl r) rz (congrArg (· + 1) l1) l2 q3
def KMethP (C : Addr) (m : Str) (n nk : Nat) (sp : Sp) (gV : List V → List V → List V) (E : XK) (t tk : TA) (σ : L2.St) (Q : VK) (x : V) (H1 : Hp) : Prop := ∃ a dx fs, x = .ref a ∧ H1 a = some (.ins C dx fs) ∧ fs.lookup m = none ∧ t σ H1 fun vs H2 => tk σ H2 fun zs H3 => vs.length = n ∧ zs.length = nk ∧ sp (gV (x :: vs) zs) H3 Q E
theorem w_methP {nk : Nat} {E : XK} {σ : L2.St} {H : Hp} {Q : VK} (h : ta σ H fun x H1 => KMethP C m n nk sp gV E t tk σ Q x H1) : tMethP C m n nk sp gV E ta t tk σ H Q := h
theorem g_methP {nk : Nat} {E : XK} {σ : L2.St} {H : Hp} {Q : VK} {L : List Cell} {a : Addr} {fs : List (Str × V)} (hh : Hd H L) (k : insC a C fs ∈ L) (l : fs.lookup m = none) (h : t σ H fun vs H2 => tk σ H2 fun zs H3 => vs.length = n ∧ zs.length = nk ∧ sp (gV (.ref a :: vs) zs) H3 Q E) : KMethP C m n nk sp gV E t tk σ Q (.ref a) H := let ⟨dx, e⟩ := hh.ins k; ⟨a, dx, fs, rfl, e, l, h⟩
end
end Wk
set_option Elab.async false
set_option linter.all false
set_option maxRecDepth 100000
set_option maxHeartbeats 4000000
/-! Wk: dicts over the ledger; tables whose values are lists. -/
namespace Wk
open PySem PySem.Spec PyProof.Rows L2
def KDI (x y : V) (H : Hp) (Q : VK) : Prop := ∃ a o, x = .ref a ∧ DGet H a y o ∧ Q (.bl o.isSome) H
def KDN (x y : V) (H : Hp) (Q : VK) : Prop := ∃ a o, x = .ref a ∧ DGet H a y o ∧ Q (.bl (!o.isSome)) H
def KDG (x y : V) (H : Hp) (Q : VK) : Prop := ∃ a v, x = .ref a ∧ DGet H a y (some v) ∧ Q v H
def KDU (D : Ends) (σ : L2.St) (x y v : V) (H : Hp) : Prop := ∃ a H4, x = .ref a ∧ DPut H a y v H4 ∧ D.nx σ H4
def KDX (D : Ends) (σ : L2.St) (x y : V) (H : Hp) : Prop := ∃ a kvs k, x = .ref a ∧ H a = some (.dK kvs) ∧ y = kV k ∧ (valV kvs k).isSome = true ∧ D.nx σ (upd H a (.dK (dropK kvs k)))
def KDP (t : TE) (σ : L2.St) (Q : VK) (x : V) (H1 : Hp) : Prop := ∃ a, x = .ref a ∧ IsD H1 a ∧ t σ H1 fun y H2 => ∃ kvs k v, H2 a = some (.dK kvs) ∧ y = kV k ∧ valV kvs k = some v ∧ Q v (upd H2 a (.dK (dropK kvs k)))
section
variable {σ : L2.St} {H : Hp} {Q : VK} {L M : List Cell} {p : Addr} {k : Key} {y v : V} {kvs : List (Key × V)} {ty td tv : TE} {D : Ends}
theorem w_din (h : ty σ H fun y H1 => td σ H1 fun x H2 => KDI x y H2 Q) : tDIn ty td σ H Q := h
theorem w_dnotin (h : ty σ H fun y H1 => td σ H1 fun x H2 => KDN x y H2 Q) : tDNotIn ty td σ H Q := h
theorem w_dget (h : td σ H fun x H1 => ty σ H1 fun y H2 => KDG x y H2 Q) : tDGet td ty σ H Q := h
theorem w_dput (h : tv σ H fun v H1 => td σ H1 fun x H2 => ty σ H2 fun y H3 => KDU D σ x y v H3) : sDPut td ty tv D σ H := h
theorem w_ddel (h : td σ H fun x H1 => ty σ H1 fun y H2 => KDX D σ x y H2) : sDDel td ty D σ H := h
theorem w_dpop (h : td σ H fun x H1 => KDP ty σ Q x H1) : tDPop1 td ty σ H Q := h
theorem g_din {b : Bool} (hh : Hd H L) (m : dctC p kvs ∈ L) (ey : y = kV k) (e : (valV kvs k).isSome = b) (q : Q (.bl b) H) : KDI (.ref p) y H Q := ⟨p, _, rfl, .inl ⟨kvs, k, .inl (hh.dct m), ey, rfl⟩, by rw [e]; exact q⟩
theorem g_dnotin {b : Bool} (hh : Hd H L) (m : dctC p kvs ∈ L) (ey : y = kV k) (e : (valV kvs k).isSome = b) (q : Q (.bl (!b)) H) : KDN (.ref p) y H Q := ⟨p, _, rfl, .inl ⟨kvs, k, .inl (hh.dct m), ey, rfl⟩, by rw [e]; exact q⟩
theorem g_dget (hh : Hd H L) (m : dctC p kvs ∈ L) (ey : y = kV k) (e : valV kvs k = some v) (q : Q v H) : KDG (.ref p) y H Q := ⟨p, v, rfl, .inl ⟨kvs, k, .inl (hh.dct m), ey, e.symm⟩, q⟩
theorem g_dput (hh : Hd H L) (m : Pk L (dctC p kvs) M) (ey : y = kV k) (hz : kvs.length < sizeLine) (q : ∀ H2, Hd H2 (dctC p (putK kvs k v) :: M) → D.nx σ H2) : KDU D σ (.ref p) y v H :=
  ⟨p, _, rfl, .inl ⟨kvs, k, (hh.pk m).dct (List.mem_cons_self ..), ey, hz, rfl⟩, q _ (hh.chgD m Chg.of)⟩
theorem g_ddel (hh : Hd H L) (m : Pk L (dctC p kvs) M) (ey : y = kV k) (e : (valV kvs k).isSome = true) (q : ∀ H2, Hd H2 (dctC p (dropK kvs k) :: M) → D.nx σ H2) : KDX D σ (.ref p) y H :=
  ⟨p, kvs, k, rfl, (hh.pk m).dct (List.mem_cons_self ..), ey, e, q _ (hh.chgD m Chg.of)⟩
theorem g_dpop {t : TE} (hh : Hd H L) (m : dctC p kvs ∈ L) (h : t σ H fun y H2 => ∃ kvs k v, H2 p = some (.dK kvs) ∧ y = kV k ∧ valV kvs k = some v ∧ Q v (upd H2 p (.dK (dropK kvs k)))) : KDP t σ Q (.ref p) H := ⟨p, rfl, .inl ⟨kvs, .inl (hh.dct m)⟩, h⟩
theorem g_listDK {kvs : List (Key × V)} (hh : Hd H L) (m : dctC p kvs ∈ L) (q : ∀ l H2, Hd H2 (lstC l (kvs.map fun kv => kV kv.1) :: L) → Q (.ref l) H2) : rListD [.ref p] H Q :=
  ⟨p, kvs, rfl, hh.dct m, fun l hl => q l _ (hh.newL (New.of hl))⟩
end
theorem tk_succ {α : Type} {xs : List α} {i : Nat} {x : α} (h : xs[i]? = some x) : xs.take (i + 1) = xs.take i ++ [x] := by
  rw [List.take_succ, h]; rfl
theorem pSnoc {α β : Type} {F : α → β → Prop} : ∀ {xs : List α} {ys : List β} {x : α} {y : β}, Paired F xs ys → F x y → Paired F (xs ++ [x]) (ys ++ [y])
  | _, _, _, _, .nil, h => .cons h .nil
  | _, _, _, _, .cons r t, h => .cons r (pSnoc t h)
/-! ### tables: a dict from numbers to lists of a told form -/
section
variable {ρ : Type} (rv : ρ → List V)
def kD (ks : List (Nat × Addr)) : List (Key × V) := ks.map fun p => ((.inl (p.1 : Int) : Key), V.ref p.2)
def rC (S : Nat → Option ρ) (ks : List (Nat × Addr)) : List Cell := ks.map fun p => lstC p.2 (((S p.1).map rv).getD [])
def upS (S : Nat → Option ρ) (k : Nat) (r : Option ρ) : Nat → Option ρ := fun j => if j = k then r else S j
theorem upS_same (S : Nat → Option ρ) (k : Nat) (r : Option ρ) : upS S k r k = r := if_pos rfl
theorem upS_ne {S : Nat → Option ρ} {j k : Nat} {r : Option ρ} (h : j ≠ k) : upS S k r j = S j := if_neg h
theorem upS_self {S : Nat → Option ρ} {k : Nat} {r : Option ρ} (h : S k = r) : upS S k r = S := funext fun j => by
  unfold upS
  by_cases e : j = k
  · rw [if_pos e, e, h]
  · rw [if_neg e]
theorem upS_upS {S : Nat → Option ρ} {k : Nat} {r r' : Option ρ} : upS (upS S k r) k r' = upS S k r' := funext fun j => by
  unfold upS
  by_cases e : j = k
  · rw [if_pos e, if_pos e]
  · rw [if_neg e, if_neg e, if_neg e]
/-- the dict at d holds the table S, its lists and itself are the block Z -/
def TabB (n : Nat) (d : Addr) (S : Nat → Option ρ) (Z : List Cell) : Prop := ∃ ks : List (Nat × Addr), (ks.map (·.1)).Nodup ∧ (∀ k, k ∈ ks.map (·.1) ↔ (S k).isSome = true) ∧ (∀ k, (S k).isSome = true → k < n) ∧ Z = dctC d (kD ks) :: rC rv S ks
theorem kD_get : ∀ {ks : List (Nat × Addr)} {k : Nat}, (ks.map (·.1)).Nodup → k ∈ ks.map (·.1) → ∃ a, (k, a) ∈ ks ∧ valV (kD ks) (.inl (k : Int)) = some (.ref a)
  | [], _, _, h => by cases h
  | (j, a) :: ks, k, nd, h => by
    by_cases e : j = k
    · subst e
      exact ⟨a, List.mem_cons_self .., valV_pos (p := ((.inl (j : Int) : Key), V.ref a)) (r := kD ks) rfl⟩
    · obtain ⟨b, h1, h2⟩ := kD_get (List.nodup_cons.mp nd).2 ((List.mem_cons.mp h).resolve_left (fun z => e z.symm))
      exact ⟨b, List.mem_cons_of_mem _ h1, (valV_neg (p := ((.inl (j : Int) : Key), V.ref a)) (r := kD ks) (fun z => e (Int.ofNat.inj (Sum.inl.inj z)))).trans h2⟩
theorem kD_none : ∀ {ks : List (Nat × Addr)} {k : Int}, (∀ j ∈ ks.map (·.1), ((j : Nat) : Int) ≠ k) → valV (kD ks) (.inl k) = none
  | [], _, _ => rfl
  | (j, a) :: ks, k, h => by
    refine (valV_neg (p := ((.inl (j : Int) : Key), V.ref a)) (r := kD ks) (fun z => h j (List.mem_cons_self ..) (Sum.inl.inj z))).trans ?_
    exact kD_none fun i hi => h i (List.mem_cons_of_mem _ hi)
theorem rC_perm {S : Nat → Option ρ} : ∀ {ks : List (Nat × Addr)} {k : Nat} {a : Addr}, (ks.map (·.1)).Nodup → (k, a) ∈ ks → (rC rv S ks).Perm (lstC a (((S k).map rv).getD []) :: rC rv S (ks.filter fun p => decide (p.1 ≠ k)))
  | [], _, _, _, h => by cases h
  | (j, b) :: ks, k, a, nd, h => by
    have n := List.nodup_cons.mp nd
    rcases List.mem_cons.mp h with e | h
    · cases e
      have ef : (((j, b) :: ks).filter fun p => decide (p.1 ≠ j)) = ks := by
        rw [List.filter_cons, if_neg (by simp)]
        refine List.filter_eq_self.mpr fun p hp => decide_eq_true fun z => n.1 (by rw [← z]; exact List.mem_map.mpr ⟨p, hp, rfl⟩)
      rw [ef]
      exact List.Perm.refl _
    · have hj : j ≠ k := fun e => n.1 (by rw [e]; exact List.mem_map_of_mem (f := (·.1)) h)
      rw [List.filter_cons, if_pos (decide_eq_true hj)]
      exact (List.Perm.cons _ (rC_perm (S := S) n.2 h)).trans (List.Perm.swap _ _ _)
theorem rC_upS {S : Nat → Option ρ} {k : Nat} {r : Option ρ} : ∀ {ks : List (Nat × Addr)}, rC rv (upS S k r) (ks.filter fun p => decide (p.1 ≠ k)) = rC rv S (ks.filter fun p => decide (p.1 ≠ k)) := fun {ks} => by
  unfold rC
  refine List.map_congr_left fun p hp => ?_
  have h := of_decide_eq_true (List.mem_filter.mp hp).2
  rw [upS_ne h]
variable {rv} {n : Nat} {d : Addr} {S : Nat → Option ρ} {Z : List Cell}
theorem TabB.dct (b : TabB rv n d S Z) : ∃ kv X, Z = dctC d kv :: X := by
  obtain ⟨ks, _, _, _, rfl⟩ := b
  exact ⟨_, _, rfl⟩
theorem TabB.lt {k : Nat} (b : TabB rv n d S Z) (h : (S k).isSome = true) : k < n := by
  obtain ⟨ks, _, _, h3, _⟩ := b
  exact h3 k h
/-- one row of it, to be read or changed -/
theorem TabB.open {k : Nat} {r : ρ} (b : TabB rv n d S Z) (h : S k = some r) : ∃ (ad : Addr) (kv : List (Key × V)) (X : List Cell), valV kv (.inl (k : Int)) = some (.ref ad) ∧ (∀ H R, Hd H (Z ++ R) ↔ Hd H (dctC d kv :: lstC ad (rv r) :: (X ++ R))) ∧
    ∀ r', ∃ Z', TabB rv n d (upS S k (some r')) Z' ∧ ∀ H R, Hd H (dctC d kv :: lstC ad (rv r') :: (X ++ R)) → Hd H (Z' ++ R) := by
  obtain ⟨ks, nd, h1, h2, rfl⟩ := b
  have hk : k ∈ ks.map (·.1) := (h1 k).mpr (by rw [h]; rfl)
  obtain ⟨ad, hm, hg⟩ := kD_get nd hk
  have p1 := rC_perm rv (S := S) nd hm
  rw [h] at p1
  refine ⟨ad, kD ks, rC rv S (ks.filter fun p => decide (p.1 ≠ k)), hg, fun H R => ?_, fun r' => ⟨_, ⟨ks, nd, fun j => ?_, fun j hj => ?_, rfl⟩, fun H R hh => ?_⟩⟩
  · have p2 : (dctC d (kD ks) :: rC rv S ks ++ R).Perm (dctC d (kD ks) :: lstC ad (rv r) :: (rC rv S (ks.filter fun p => decide (p.1 ≠ k)) ++ R)) := List.Perm.cons _ (p1.append_right R)
    exact ⟨fun hh => hh.perm p2, fun hh => hh.perm p2.symm⟩
  · by_cases e : j = k
    · subst e; rw [upS_same]; exact ⟨fun _ => rfl, fun _ => hk⟩
    · rw [upS_ne e]; exact h1 j
  · by_cases e : j = k
    · subst e; exact h2 j (by rw [h]; rfl)
    · rw [upS_ne e] at hj; exact h2 j hj
  · have p1 := rC_perm rv (S := upS S k (some r')) nd hm
    rw [upS_same, rC_upS] at p1
    have p2 : (dctC d (kD ks) :: rC rv (upS S k (some r')) ks ++ R).Perm (dctC d (kD ks) :: lstC ad (rv r') :: (rC rv S (ks.filter fun p => decide (p.1 ≠ k)) ++ R)) := List.Perm.cons _ (p1.append_right R)
    exact hh.perm p2.symm
theorem ks_has {ks : List (Nat × Addr)} (nd : (ks.map (·.1)).Nodup) (h1 : ∀ k, k ∈ ks.map (·.1) ↔ (S k).isSome = true) (h2 : ∀ k, (S k).isSome = true → k < n) : (kD ks).length ≤ n ∧ (∀ k : Nat, (valV (kD ks) (.inl (k : Int))).isSome = (S k).isSome) ∧ ∀ i : Int, i < 0 → (valV (kD ks) (.inl i)).isSome = false := by
  refine ⟨?_, fun k => ?_, fun i hi => ?_⟩
  · unfold kD
    rw [List.length_map, ← List.length_map (as := ks) (f := (·.1))]
    have go : ∀ (n : Nat) (xs : List Nat), xs.Nodup → (∀ a ∈ xs, a < n) → xs.length ≤ n := by
      intro n
      induction n with
      | zero => intro xs _ h; cases xs with
        | nil => exact Nat.le_refl _
        | cons x xs => exact absurd (h x (List.mem_cons_self ..)) (by omega)
      | succ n ih =>
        intro xs nd h
        by_cases hn : n ∈ xs
        · have h1 := ih (xs.erase n) (nd.erase n) fun a ha => by
            have h2 := h a (List.mem_of_mem_erase ha)
            have h3 := ((List.Nodup.mem_erase_iff nd).mp ha).1
            omega
          rw [List.length_erase_of_mem hn] at h1
          omega
        · have h1 := ih xs nd fun a ha => by
            have h2 := h a ha
            have h3 : a ≠ n := fun e => hn (e ▸ ha)
            omega
          omega
    exact go n _ nd fun a ha => h2 a ((h1 a).mp ha)
  · cases e : (S k).isSome with
    | true =>
      obtain ⟨a, _, h3⟩ := kD_get nd ((h1 k).mpr e)
      rw [h3]; rfl
    | false =>
      rw [kD_none fun j hj z => ?_]
      · rfl
      · have : j = k := Int.ofNat.inj z
        subst this
        rw [(h1 j).mp hj] at e
        cases e
  · rw [kD_none fun j hj z => by omega]
    rfl
/-- whether a number is a key -/
theorem TabB.has (b : TabB rv n d S Z) : ∃ (kv : List (Key × V)) (X : List Cell), Z = dctC d kv :: X ∧ kv.length ≤ n ∧ (∀ k : Nat, (valV kv (.inl (k : Int))).isSome = (S k).isSome) ∧ ∀ i : Int, i < 0 → (valV kv (.inl i)).isSome = false := by
  obtain ⟨ks, nd, h1, h2, rfl⟩ := b
  exact ⟨_, _, rfl, ks_has nd h1 h2⟩
/-- a new row -/
theorem TabB.add {k : Nat} (b : TabB rv n d S Z) (hk : k < n) (h : S k = none) : ∃ (kv : List (Key × V)) (X : List Cell), Z = dctC d kv :: X ∧ kv.length ≤ n ∧ (valV kv (.inl (k : Int))).isSome = false ∧ ∀ (ad : Addr) (r : ρ), ∃ Z', TabB rv n d (upS S k (some r)) Z' ∧ ∀ H R, Hd H (dctC d (putK kv (.inl (k : Int)) (.ref ad)) :: lstC ad (rv r) :: (X ++ R)) → Hd H (Z' ++ R) := by
  obtain ⟨ks, nd, h1, h2, rfl⟩ := b
  obtain ⟨hlen, hg, _⟩ := ks_has nd h1 h2
  have hn : k ∉ ks.map (·.1) := fun m => by
    have := (h1 k).mp m
    rw [h] at this
    cases this
  refine ⟨_, _, rfl, hlen, by rw [hg, h]; rfl, fun ad r => ⟨_, ⟨ks ++ [(k, ad)], ?_, fun j => ?_, fun j hj => ?_, rfl⟩, fun H R hh => ?_⟩⟩
  · rw [List.map_append, List.nodup_append]
    refine ⟨nd, by simp, fun x hx y hy e => ?_⟩
    have e3 : y = k := List.mem_singleton.mp hy
    exact hn (by rw [← e3, ← e]; exact hx)
  · rw [List.map_append, List.mem_append]
    by_cases e : j = k
    · subst e; rw [upS_same]; exact ⟨fun _ => rfl, fun _ => .inr (List.mem_singleton.mpr rfl)⟩
    · rw [upS_ne e]
      exact ⟨fun z => (h1 j).mp (z.resolve_right fun z => e (List.mem_singleton.mp z)), fun z => .inl ((h1 j).mpr z)⟩
  · by_cases e : j = k
    · subst e; exact hk
    · rw [upS_ne e] at hj; exact h2 j hj
  · have e1 : putK (kD ks) (.inl (k : Int)) (.ref ad) = kD (ks ++ [(k, ad)]) := by
      have e2 := hg k
      rw [h] at e2
      unfold putK
      rw [valV_any, e2]
      simp [kD]
    have e3 : rC rv (upS S k (some r)) (ks ++ [(k, ad)]) = rC rv S ks ++ [lstC ad (rv r)] := by
      unfold rC
      rw [List.map_append]
      congr 1
      · refine List.map_congr_left fun p hp => ?_
        rw [upS_ne fun z => hn (by rw [← z]; exact List.mem_map_of_mem hp)]
      · show [lstC ad (((upS S k (some r) k).map rv).getD [])] = _
        rw [upS_same]
        rfl
    rw [e1] at hh
    rw [e3]
    refine hh.perm (List.Perm.cons _ ?_)
    show (lstC ad (rv r) :: (rC rv S ks ++ R)).Perm ((rC rv S ks ++ [lstC ad (rv r)]) ++ R)
    rw [List.append_assoc]
    exact List.perm_middle.symm
/-- a row is dropped -/
theorem TabB.del {k : Nat} {r : ρ} (b : TabB rv n d S Z) (h : S k = some r) : ∃ (kv : List (Key × V)) (X : List Cell), Z = dctC d kv :: X ∧ (∃ ad, valV kv (.inl (k : Int)) = some (.ref ad)) ∧ ∃ Z', TabB rv n d (upS S k none) Z' ∧ ∀ H R, Hd H (dctC d (dropK kv (.inl (k : Int))) :: (X ++ R)) → Hd H (Z' ++ R) := by
  obtain ⟨ks, nd, h1, h2, rfl⟩ := b
  have hk : k ∈ ks.map (·.1) := (h1 k).mpr (by rw [h]; rfl)
  obtain ⟨ad, hm, hg⟩ := kD_get nd hk
  have p1 := rC_perm rv (S := S) nd hm
  refine ⟨_, _, rfl, ⟨ad, hg⟩, _, ⟨ks.filter fun p => decide (p.1 ≠ k), ?_, fun j => ?_, fun j hj => ?_, rfl⟩, fun H R hh => ?_⟩
  · exact nd.sublist (List.filter_sublist.map _)
  · by_cases e : j = k
    · subst e
      rw [upS_same]
      refine ⟨fun m => ?_, fun z => by cases z⟩
      obtain ⟨p, hp, e⟩ := List.mem_map.mp m
      exact absurd e (of_decide_eq_true (List.mem_filter.mp hp).2)
    · rw [upS_ne e, ← h1 j]
      constructor
      · intro m
        obtain ⟨p, hp, e⟩ := List.mem_map.mp m
        exact List.mem_map.mpr ⟨p, (List.mem_filter.mp hp).1, e⟩
      · intro m
        obtain ⟨p, hp, e2⟩ := List.mem_map.mp m
        exact List.mem_map.mpr ⟨p, List.mem_filter.mpr ⟨hp, decide_eq_true (by rw [e2]; exact e)⟩, e2⟩
  · by_cases e : j = k
    · subst e; rw [upS_same] at hj; cases hj
    · rw [upS_ne e] at hj; exact h2 j hj
  · have e1 : dropK (kD ks) (.inl (k : Int)) = kD (ks.filter fun p => decide (p.1 ≠ k)) := by
      unfold dropK kD
      rw [List.filter_map]
      congr 1
      refine List.filter_congr fun p _ => ?_
      exact decide_eq_decide.mpr ⟨fun h e => h (congrArg (fun k : Nat => (Sum.inl (k : Int) : Key)) e), fun h e => h (Int.ofNat.inj (Sum.inl.inj e))⟩
    rw [e1] at hh
    rw [rC_upS]
    have hh2 := hh.perm (List.Perm.cons _ (p1.append_right R))
    exact hh2.perm (List.Perm.swap _ _ _) |>.tail
/-- the keys, ascending -/
def keysS (n : Nat) (S : Nat → Option ρ) : List Nat := (List.range n).filter fun k => (S k).isSome
theorem keysS_mem {k : Nat} : k ∈ keysS n S ↔ k < n ∧ (S k).isSome = true := by
  unfold keysS
  rw [List.mem_filter, List.mem_range]
theorem keysS_asc : (keysS n S).Pairwise (· < ·) := (List.pairwise_lt_range (n := n)).sublist List.filter_sublist
theorem asc_one : ∀ {xs ys : List Nat}, xs.Pairwise (· < ·) → ys.Pairwise (· < ·) → (∀ a, a ∈ xs ↔ a ∈ ys) → xs = ys
  | [], [], _, _, _ => rfl
  | [], y :: ys, _, _, h => absurd ((h y).mpr (List.mem_cons_self ..)) (List.not_mem_nil)
  | x :: xs, [], _, _, h => absurd ((h x).mp (List.mem_cons_self ..)) (List.not_mem_nil)
  | x :: xs, y :: ys, h1, h2, h => by
    have p1 := List.pairwise_cons.mp h1
    have p2 := List.pairwise_cons.mp h2
    have e : x = y := by
      rcases List.mem_cons.mp ((h x).mp (List.mem_cons_self ..)) with z | z
      · exact z
      · rcases List.mem_cons.mp ((h y).mpr (List.mem_cons_self ..)) with z2 | z2
        · exact z2.symm
        · have a := p2.1 x z
          have b := p1.1 y z2
          omega
    subst e
    rw [asc_one p1.2 p2.2 fun a => ?_]
    constructor
    · intro ha
      rcases List.mem_cons.mp ((h a).mp (List.mem_cons_of_mem _ ha)) with z | z
      · have := p1.1 a ha; omega
      · exact z
    · intro ha
      rcases List.mem_cons.mp ((h a).mpr (List.mem_cons_of_mem _ ha)) with z | z
      · have := p2.1 a ha; omega
      · exact z
/-- whatever is a sorted list of the dict's keys is keysS -/
theorem TabB.sorted (b : TabB rv n d S Z) : ∃ (ks : List Nat) (kv : List (Key × V)) (X : List Cell), Z = dctC d kv :: X ∧ kv.map (·.1) = (ks.map fun k : Nat => (k : Int)).map Sum.inl ∧ (kv.map fun q => kV q.1) = (ks.map fun k : Nat => (k : Int)).map V.int ∧ ks.length ≤ n ∧
    ∀ ns : List Int, ns.Perm (ks.map fun k : Nat => (k : Int)) → ns.Pairwise (· ≤ ·) → ns = (keysS n S).map fun k : Nat => (k : Int) := by
  obtain ⟨ks, nd, h1, h2, rfl⟩ := b
  obtain ⟨hl, _, _⟩ := ks_has nd h1 h2
  refine ⟨ks.map (·.1), _, _, rfl, ?_, ?_, ?_, fun ns hp hs => ?_⟩
  · unfold kD
    rw [List.map_map, List.map_map, List.map_map]
    rfl
  · unfold kD
    rw [List.map_map, List.map_map, List.map_map]
    rfl
  · rw [List.length_map]
    unfold kD at hl
    rw [List.length_map] at hl
    exact hl
  · have hpos : ∀ x ∈ ns, ∃ k : Nat, x = (k : Int) := fun x hx => by
      obtain ⟨k, _, e⟩ := List.mem_map.mp (hp.mem_iff.mp hx)
      exact ⟨k, e.symm⟩
    have e : ns = (ns.map Int.toNat).map (fun k : Nat => (k : Int)) := by
      rw [List.map_map]
      refine (List.map_id ns).symm.trans (List.map_congr_left fun x hx => ?_)
      obtain ⟨k, rfl⟩ := hpos x hx
      rfl
    have hp2 : (ns.map Int.toNat).Perm (ks.map (·.1)) := by
      have := hp.map Int.toNat
      rw [List.map_map] at this
      have e2 : List.map (Int.toNat ∘ fun k : Nat => (k : Int)) (ks.map (·.1)) = ks.map (·.1) := (List.map_congr_left fun x _ => rfl).trans (List.map_id _)
      rw [e2] at this
      exact this
    have nd2 := hp2.nodup_iff.mpr nd
    rw [e]
    congr 1
    refine asc_one ?_ keysS_asc fun a => ?_
    · rw [e, List.pairwise_map] at hs
      exact (hs.and nd2).imp fun {a b} ⟨x, y⟩ => by omega
    · rw [hp2.mem_iff, keysS_mem, h1 a]
      exact ⟨fun z => ⟨h2 a z, z⟩, fun z => z.2⟩
theorem TabB.nil (n : Nat) (d : Addr) : TabB rv n d (fun _ => none) [dctC d []] := ⟨[], List.nodup_nil, fun k => ⟨fun h => (by cases h), fun h => (by cases h)⟩, fun k h => (by cases h), rfl⟩
end
end Wk
set_option Elab.async false
set_option linter.all false
set_option maxRecDepth 100000
set_option maxHeartbeats 4000000
/-! Wk: loops and comprehensions over lists and over enumerate of lists, with any targets. -/
namespace Wk
open PySem PySem.Spec PyProof.Rows L2
def KForE (K : PySem.W.Frag) (g : TG) (tb : TS) (D : Ends) (σ : L2.St) (vs : List V) (H : Hp) : Prop := ∃ a xs, vs = [.ref a] ∧ SqL K H a xs ∧ KFor (Ite K a) g tb D σ H
section
variable {K : PySem.W.Frag} {σ : L2.St} {H : Hp} {Q : VK} {L : List Cell} {te : TE} {ta : TA} {tt : TT} {tb : TS} {D : Ends} {g : TG} {us : List Nat} {a : Addr} {xs : List V}
theorem w_forE (h : ta σ H fun vs H1 => KForE K g tb D σ vs H1) : tFor (iEnum K ta) g tb D σ H := h
theorem l_enumG (h : SqL K H a xs) (Pv : Nat → L2.St → Hp → Prop) (h0 : Pv 0 σ H) (hl : ∀ i σ H, i ≤ xs.length → Pv i σ H → SqL K H a xs)
    (hs : ∀ (i : Nat) (y : V) (T : Addr) (σ : L2.St) (H : Hp), xs[i]? = some y → Pv i σ H → H T = none → g (.ref T) σ (upd H T (.tup [.int (i : Nat), y])) fun σ2 H2 => tb { D with nx := Pv (i + 1), ct := Pv (i + 1), bk := D.nx } σ2 H2)
    (hd : ∀ σ H, Pv xs.length σ H → D.nx σ H) : KForE K g tb D σ [.ref a] H := by
  refine ⟨a, xs, rfl, h, fun i m σ H => m = xs.length - i ∧ i ≤ xs.length ∧ Pv i σ H, ⟨xs.length, rfl, Nat.zero_le _, h0⟩, ?_⟩
  rintro i m σ H ⟨rfl, hi, p⟩
  have qy := hl i σ H hi p
  by_cases hlt : i < xs.length
  · refine .inr ⟨⟨xs, xs[i], qy, List.getElem?_eq_getElem hlt⟩, Pv (i + 1), fun σ' H' p' => ⟨xs.length - (i + 1), by omega, rfl, hlt, p'⟩, fun v H' y => ?_⟩
    obtain ⟨T, y', rfl, hT, rfl, f2⟩ := y
    exact hs i y' T σ H (f2 xs qy) p hT
  · have e : i = xs.length := by omega
    subst e
    exact .inl ⟨⟨xs, qy, Nat.le_refl _⟩, hd σ H p⟩
theorem l_listG (h : SqL K H a xs) (Pv : Nat → L2.St → Hp → Prop) (h0 : Pv 0 σ H) (hl : ∀ i σ H, i ≤ xs.length → Pv i σ H → SqL K H a xs)
    (hs : ∀ i y σ H, xs[i]? = some y → Pv i σ H → g y σ H fun σ2 H2 => tb { D with nx := Pv (i + 1), ct := Pv (i + 1), bk := D.nx } σ2 H2) (hd : ∀ σ H, Pv xs.length σ H → D.nx σ H) : KForL K g tb D σ (.ref a) H :=
  ⟨a, rfl, ⟨xs, h⟩, for_list (K := K) (a := a) (xs := xs) Pv h0 hl hs hd⟩
theorem lc_EG (h : SqL K H a xs) (Pv : Nat → Addr → Hp → Prop) (h0 : ∀ D H1, New H H1 D (.lst []) → Pv 0 D H1) (hl : ∀ i D H, i ≤ xs.length → Pv i D H → SqL K H a xs)
    (hs : ∀ (i : Nat) x T D H, xs[i]? = some x → Pv i D H → H T = none → g (.ref T) (wipe σ us) (upd H T (.tup [.int (i : Nat), x])) fun σ2 H2 => wipe σ2 us = wipe σ us ∧ tt σ2 H2 fun b H3 => if b = true then te σ2 H3 (KApp D (Pv (i + 1) D)) else Pv (i + 1) D H3)
    (hd : ∀ D H, Pv xs.length D H → Q (.ref D) H) : KLcE K g tt te us σ Q [.ref a] H := by
  refine ⟨a, xs, rfl, h, fun D hD => ?_⟩
  refine lc_it walk_enum (fun i H => Pv i D H) (h0 D _ (New.of hD)) (fun i H hi p => hl i D H hi p) (fun i x H H' hi p y => ?_) fun H p => hd D H p
  obtain ⟨T, u, v, rfl, hT, rfl, hu, hv⟩ := y
  cases hu
  exact hs i v T D H hv p hT
theorem lc_LG (h : SqL K H a xs) (Pv : Nat → Addr → Hp → Prop) (h0 : ∀ D H1, New H H1 D (.lst []) → Pv 0 D H1) (hl : ∀ i D H, i ≤ xs.length → Pv i D H → SqL K H a xs)
    (hs : ∀ (i : Nat) x D H, xs[i]? = some x → Pv i D H → g x (wipe σ us) H fun σ2 H2 => wipe σ2 us = wipe σ us ∧ tt σ2 H2 fun b H3 => if b = true then te σ2 H3 (KApp D (Pv (i + 1) D)) else Pv (i + 1) D H3)
    (hd : ∀ D H, Pv xs.length D H → Q (.ref D) H) : KLcL K g tt te us σ Q (.ref a) H := by
  refine ⟨a, rfl, ⟨xs, h⟩, fun D hD => ?_⟩
  refine lc_it walk_list (fun i H => Pv i D H) (h0 D _ (New.of hD)) (fun i H hi p => hl i D H hi p) (fun i x H H' hi p y => ?_) fun H p => hd D H p
  obtain ⟨rfl, hx⟩ := y
  exact hs i x D _ hx p
theorem g_lcEG (hh : Hd H L) (h : SqL K H a xs) (Pv : Nat → Addr → Hp → Prop) (h0 : ∀ D H1, Hd H1 (lstC D [] :: L) → Pv 0 D H1) (hl : ∀ i D H, i ≤ xs.length → Pv i D H → SqL K H a xs)
    (hs : ∀ (i : Nat) x T D H, xs[i]? = some x → Pv i D H → H T = none → g (.ref T) (wipe σ us) (upd H T (.tup [.int (i : Nat), x])) fun σ2 H2 => wipe σ2 us = wipe σ us ∧ tt σ2 H2 fun b H3 => if b = true then te σ2 H3 (KApp D (Pv (i + 1) D)) else Pv (i + 1) D H3)
    (hd : ∀ D H, Pv xs.length D H → Q (.ref D) H) : KLcE K g tt te us σ Q [.ref a] H := lc_EG h Pv (fun D H1 nn => h0 D H1 (hh.newL nn)) hl hs hd
theorem g_lcLG (hh : Hd H L) (h : SqL K H a xs) (Pv : Nat → Addr → Hp → Prop) (h0 : ∀ D H1, Hd H1 (lstC D [] :: L) → Pv 0 D H1) (hl : ∀ i D H, i ≤ xs.length → Pv i D H → SqL K H a xs)
    (hs : ∀ (i : Nat) x D H, xs[i]? = some x → Pv i D H → g x (wipe σ us) H fun σ2 H2 => wipe σ2 us = wipe σ us ∧ tt σ2 H2 fun b H3 => if b = true then te σ2 H3 (KApp D (Pv (i + 1) D)) else Pv (i + 1) D H3)
    (hd : ∀ D H, Pv xs.length D H → Q (.ref D) H) : KLcL K g tt te us σ Q (.ref a) H := lc_LG h Pv (fun D H1 nn => h0 D H1 (hh.newL nn)) hl hs hd
end
end Wk
set_option Elab.async false
set_option linter.all false
set_option maxRecDepth 100000
set_option maxHeartbeats 4000000
/-! Wk: sorted(xs), xs a list of tuples of plain data; x not in o by an own __contains__. -/
namespace Wk
open PySem PySem.Spec PyProof.Rows L2
/-- sorted(xs), xs a list of data that are told apart alike -/
def rSortD (K : PySem.W.Frag) : List V → Hp → VK → Prop := fun vs H Q => ∃ (a : Addr) (bs : List (V × PyData)), vs = [V.ref a] ∧ SqL K H a (bs.map (·.1)) ∧ (∀ b ∈ bs, Dp K H b.1 b.2) ∧ PySem.W.AllAlike (bs.map (·.2)) ∧ PySem.W.Sortable (bs.map (·.2)) ∧ (∀ b ∈ bs, b.2.depth ≤ 60) ∧
  ∀ (ys : List (V × PyData)) (p : Addr), ys.Perm bs → ys.Pairwise (fun b c => PySem.W.dataLe false (fun z : V × PyData => z.2) b c = true) → H p = none → Q (.ref p) (upd H p (.lst (ys.map (·.1))))
theorem each_of_vals {K : PySem.W.Frag} : ∀ {bs : List (V × PyData)} {us : List Value}, Vals (bs.map (·.1)) us → PySem.W.EachIs (fun (u : Value) (b : V × PyData) => RelV b.1 u) us bs
  | [], [], .nil => .nil
  | _ :: _, _ :: _, .cons r t => .cons r (each_of_vals (K := K) t)
theorem vals_of_each : ∀ {bs : List (V × PyData)} {us : List Value}, PySem.W.EachIs (fun (u : Value) (b : V × PyData) => RelV b.1 u) us bs → Vals (bs.map (·.1)) us
  | _, _, .nil => .nil
  | _, _, .cons r t => .cons r (vals_of_each t)
theorem each_reads {X : Cx} {pins : List (Addr × Obj)} {σ : L2.St} {H : Hp} {s : Shared} (I : Inv X pins σ H s) : ∀ {bs : List (V × PyData)} {us : List Value}, PySem.W.EachIs (fun (u : Value) (b : V × PyData) => RelV b.1 u) us bs → (∀ b ∈ bs, Dp X.K H b.1 b.2) → PySem.W.EachIs (fun (u : Value) (b : V × PyData) => ∃ as, Reads s.heap u b.2 as) us bs
  | _, _, .nil, _ => .nil
  | b :: bs, _ :: _, .cons r t, h => .cons (Dp.reads I b.2 b.1 _ (h b (List.mem_cons_self ..)) r) (each_reads I t fun c hc => h c (List.mem_cons_of_mem _ hc))
section
variable {X : Cx}
theorem cr_sortedDat (hu : X.A.units + 64 < cLine) : CallR X (.builtin "sorted") (rSortD X.K) := by
  intro pins s σ H vs us Q I r h
  obtain ⟨a, bs, rfl, hs, hd, hal, hk, hdep, q⟩ := h
  obtain ⟨its, rv, hl, hz⟩ := I.list hs
  rw [Vals.ref1 r]
  have e := each_of_vals (K := X.K) rv
  have er := each_reads I e hd
  have hlen : bs.length ≤ sizeLine := by rw [List.length_map] at hz; exact hz
  refine PySem.W.sorted_data (enc := fun b : V × PyData => b.2) hl.isList e er hal hk hlen (fun b hb => by have := hdep b hb; show X.A.units + 2 + b.2.depth < cLine; omega) fun out ho eo => ?_
  obtain ⟨ep, he'⟩ := PyProof.Rows.sortedAll_at s.heap its out.toArray
  have hp : (bs.mergeSort (PySem.W.dataLe false fun b : V × PyData => b.2)).Perm bs := List.mergeSort_perm ..
  exact ⟨.ref _, upd H (s.heap.objs.size + 1) (.lst ((bs.mergeSort (PySem.W.dataLe false fun b : V × PyData => b.2)).map (·.1))), I.laid (t' := s.toks) (fun _ _ => PyProof.Rows.sortedAll_old) (Nat.le_succ _) ⟨by rw [List.length_map, hp.length_eq]; exact hlen, out, ep, vals_of_each eo, he'⟩, rfl,
    q _ _ hp (PySem.W.sort_pairwise (PySem.W.sortLe_total _ _ _) _) (I.hok.fresh (Nat.le_succ _))⟩
end
/-- tuples with whole numbers ahead: in order by these -/
theorem le_head {b c : V × PyData} {x y : Int} {r r' : List PyData} (hb : b.2 = .tuple (.int x :: r)) (hc : c.2 = .tuple (.int y :: r')) (h : PySem.W.dataLe false (fun z : V × PyData => z.2) b c = true) : x ≤ y := by
  have h : (!PySem.W.dataLt c.2 b.2) = true := h
  rw [hb, hc, PySem.W.dataLt_tuple, PySem.W.dataLt_cons (by simp [PySem.W.alike])] at h
  by_cases e : y < x
  · rw [if_neg (by simp only [PyData.eqv, beq_iff_eq]; omega), PySem.W.dataLt_int, decide_eq_true e] at h
    cases h
  · omega
/-! ### x not in o -/
def rNotInOwn (C : Addr) (sp : Sp) : R2 := fun x y H Q => ∃ a dx fs, y = .ref a ∧ H a = some (.ins C dx fs) ∧ sp [.ref a, x] H (fun v H' => ∃ b, v = .bl b ∧ Q (.bl (!b)) H') C8.E0
theorem op_notin_own {X : Cx} {k j : Nat} {C : Addr} {sp : Sp} (c : C8.Met X.prog X.w X.K X.mg X.base k C "__contains__" sp []) (hr : Room j X.A) (hk : k ≤ j) : OpR X (compareOp .NotIn) (rNotInOwn C sp) := by
  intro pins s σ H x y v u Q I rx ry h
  obtain ⟨a, dx, fs, rfl, e, q⟩ := h
  cases ry
  show wpAny _ _ (contains (.ref a) v >>= _) _ _ _
  refine wpAny_bind (contains_own c hr hk I rx e q fun b H' s' I' hq => ?_)
  exact wpAny_pure ⟨.bl (!b), H', I', rfl, hq⟩
end Wk
set_option Elab.async false
set_option linter.all false
set_option maxRecDepth 100000
set_option maxHeartbeats 4000000
namespace K23
open PySem PySem.Spec PyProof.Rows L2 Wk
def top (i : Nat) : Stmt := PySem.Challenge.pw_wardwork_k23_each_deed_changes_one_row.main.body.getD i (.Pass ⟨0, 0, 0, 0⟩)
/-- what the top leaves that the defs lean on -/
structure Txt (K : PySem.W.Frag) (mg : Str → Option Value) (aREG aOPS : Addr) : Prop extends Bt mg where
abbrev FunT (K : PySem.W.Frag) (x : Str) (st : Stmt) (f : Addr) (fd : FuncData) : Prop := FunD K x x (defArgs st) (defBody st) (defScope st) [] [] f fd
/-- a def of the module that stands under its name -/
def DefAt (K : PySem.W.Frag) (mg : Str → Option Value) (x : Str) (st : Stmt) : Prop := ∃ f fd, FunT K x st f fd ∧ mg x = some (.ref f)
/-- the same, with its code object -/
def DefAtC (K : PySem.W.Frag) (mg : Str → Option Value) (x : Str) (st : Stmt) (c : Addr) : Prop := ∃ f fd, (FunT K x st f fd ∧ fd.code = .ref c) ∧ mg x = some (.ref f)
section
variable {P : Program} {w : World} {K : PySem.W.Frag} {mg : Str → Option Value} {base : Heap} {aREG aOPS : Addr}
theorem mk {x : Str} {st : Stmt} {N ps : List Str} {k : Nat} {sp : Sp} (d : DefAt K mg x st) (S : FnScope N ps (defScope st))
    (hb : ∀ (kV doc pm : Value) (an : Option Addr) (cdv ct : Value) (us : List Value), us.length = ps.length → bindArgs (PySem.W.fnOf x x (defArgs st) (defBody st) (defScope st) .none kV doc pm an cdv ct) ⟨us, []⟩ = pure (ps.zip us))
    (len : ∀ vs H Q E, sp vs H Q E → vs.length = ps.length)
    (body : ∀ (f : Addr) (cdv : Value) (A : Around) (outer : List Env) (s : Shared) (H : Hp) (vs : List V) (Q : VK) (E : XK), Room k (A.deeper (envOfC x (defScope st) s.heap.objs.size f cdv)) → sp vs H Q E →
      ∃ t, PSs (cxOf CX0 P w K mg base N x (defScope st) f cdv A outer s H E).nox (defBody st) t ∧ t { nx := fun _ H' => Q .non H', rt := Q } (start N vs) H) : C8.Cal P w K mg base (k + 1) x sp [] := by
  obtain ⟨f, fd, F, hm⟩ := d
  refine ⟨f, fd, ps, [], F.ok S len (fun cdv A outer s H vs Q E hr hsp => ?_), hm, F.kp, F.bindsN hb, .nil⟩
  obtain ⟨t, h, q⟩ := body f cdv A outer s H vs Q E hr hsp
  exact ⟨t, h.nox, q⟩
theorem mkC {x : Str} {st : Stmt} {c : Addr} {N ps : List Str} {k : Nat} {sp : Sp} (d : DefAtC K mg x st c) (S : FnScope N ps (defScope st))
    (hb : ∀ (kV doc pm : Value) (an : Option Addr) (cdv ct : Value) (us : List Value), us.length = ps.length → bindArgs (PySem.W.fnOf x x (defArgs st) (defBody st) (defScope st) .none kV doc pm an cdv ct) ⟨us, []⟩ = pure (ps.zip us))
    (len : ∀ vs H Q E, sp vs H Q E → vs.length = ps.length)
    (body : ∀ (f : Addr) (A : Around) (outer : List Env) (s : Shared) (H : Hp) (vs : List V) (Q : VK) (E : XK), Room k (A.deeper (envOfC x (defScope st) s.heap.objs.size f (.ref c))) → sp vs H Q E →
      ∃ t, PSs (cxOf CX0 P w K mg base N x (defScope st) f (.ref c) A outer s H E).nox (defBody st) t ∧ t { nx := fun _ H' => Q .non H', rt := Q } (start N vs) H) : C8.Cal P w K mg base (k + 1) x sp [] := by
  obtain ⟨f, fd, ⟨F, hc⟩, hm⟩ := d
  refine ⟨f, fd, ps, [], ?_, hm, F.kp, F.bindsN hb, .nil⟩
  obtain ⟨oc, od, dV, kV, doc, pm, an, cdv, ct, osl, rfl, lk, hcd, _, _⟩ := F.ex
  cases (show cdv = .ref c from hc)
  exact fn_of lk hcd S len fun A outer s H vs Q E hr hsp => let ⟨t, h, q⟩ := body f A outer s H vs Q E hr hsp; ⟨t, h.nox, q⟩
theorem mkF {x : Str} {st : Stmt} {N ps : List Str} {k : Nat} {sp : Sp} {f : Addr} {fd : FuncData} (F : FunT K x st f fd) (S : FnScope N ps (defScope st))
    (len : ∀ vs H Q E, sp vs H Q E → vs.length = ps.length)
    (body : ∀ (f : Addr) (cdv : Value) (A : Around) (outer : List Env) (s : Shared) (H : Hp) (vs : List V) (Q : VK) (E : XK), Room k (A.deeper (envOfC x (defScope st) s.heap.objs.size f cdv)) → sp vs H Q E →
      ∃ t, PSs (cxOf CX0 P w K mg base N x (defScope st) f cdv A outer s H E).nox (defBody st) t ∧ t { nx := fun _ H' => Q .non H', rt := Q } (start N vs) H) : FnOk P w K mg base CX0 (k + 1) f fd ps sp :=
  F.ok S len fun cdv A outer s H vs Q E hr hsp => let ⟨t, h, q⟩ := body f cdv A outer s H vs Q E hr hsp; ⟨t, h.nox, q⟩
abbrev s__law_mixed : Stmt := top 14
abbrev nm__law_mixed : List Str := ["number", "turn", "many", "first", "second", "third"]
theorem sc__law_mixed : FnScope nm__law_mixed ["number", "turn", "many"] (defScope s__law_mixed) := ⟨rfl, rfl, rfl, by decide +kernel, rfl, by decide +kernel, by decide +kernel⟩
abbrev s__law_store : Stmt := top 15
abbrev nm__law_store : List Str := ["script", "salt", "seed", "cell"]
theorem sc__law_store : FnScope nm__law_store ["script", "salt"] (defScope s__law_store) := ⟨rfl, rfl, rfl, by decide +kernel, rfl, by decide +kernel, by decide +kernel⟩
abbrev s__law_take : Stmt := top 16
abbrev nm__law_take : List Str := ["store", "many", "cell", "digit"]
theorem sc__law_take : FnScope nm__law_take ["store", "many"] (defScope s__law_take) := ⟨rfl, rfl, rfl, by decide +kernel, rfl, by decide +kernel, by decide +kernel⟩
abbrev s__law_pick : Stmt := top 17
abbrev nm__law_pick : List Str := ["store", "row"]
theorem sc__law_pick : FnScope nm__law_pick ["store", "row"] (defScope s__law_pick) := ⟨rfl, rfl, rfl, by decide +kernel, rfl, by decide +kernel, by decide +kernel⟩
abbrev s__law_between : Stmt := top 18
abbrev nm__law_between : List Str := ["store", "low", "high", "many", "way"]
theorem sc__law_between : FnScope nm__law_between ["store", "low", "high"] (defScope s__law_between) := ⟨rfl, rfl, rfl, by decide +kernel, rfl, by decide +kernel, by decide +kernel⟩
abbrev s__law_size : Stmt := top 19
abbrev nm__law_size : List Str := ["store", "most", "way"]
theorem sc__law_size : FnScope nm__law_size ["store", "most"] (defScope s__law_size) := ⟨rfl, rfl, rfl, by decide +kernel, rfl, by decide +kernel, by decide +kernel⟩
abbrev s__law_alike : Stmt := top 20
abbrev nm__law_alike : List Str := ["one", "two", "k"]
theorem sc__law_alike : FnScope nm__law_alike ["one", "two"] (defScope s__law_alike) := ⟨rfl, rfl, rfl, by decide +kernel, rfl, by decide +kernel, by decide +kernel⟩
abbrev s__law_copy : Stmt := top 21
abbrev nm__law_copy : List Str := ["value", "x"]
theorem sc__law_copy : FnScope nm__law_copy ["value"] (defScope s__law_copy) := ⟨rfl, rfl, rfl, by decide +kernel, rfl, by decide +kernel, by decide +kernel⟩
abbrev s_is_integer : Stmt := top 7
abbrev nm_is_integer : List Str := ["x"]
theorem sc_is_integer : FnScope nm_is_integer ["x"] (defScope s_is_integer) := ⟨rfl, rfl, rfl, by decide +kernel, rfl, by decide +kernel, by decide +kernel⟩
abbrev s_is_in_range : Stmt := top 8
abbrev nm_is_in_range : List Str := ["x", "least", "most"]
theorem sc_is_in_range : FnScope nm_is_in_range ["x", "least", "most"] (defScope s_is_in_range) := ⟨rfl, rfl, rfl, by decide +kernel, rfl, by decide +kernel, by decide +kernel⟩
abbrev s_ask_range : Stmt := top 9
abbrev nm_ask_range : List Str := ["name", "number", "least", "most"]
theorem sc_ask_range : FnScope nm_ask_range ["name", "number", "least", "most"] (defScope s_ask_range) := ⟨rfl, rfl, rfl, by decide +kernel, rfl, by decide +kernel, by decide +kernel⟩
abbrev s_ask_truth : Stmt := top 10
abbrev nm_ask_truth : List Str := ["name", "truth"]
theorem sc_ask_truth : FnScope nm_ask_truth ["name", "truth"] (defScope s_ask_truth) := ⟨rfl, rfl, rfl, by decide +kernel, rfl, by decide +kernel, by decide +kernel⟩
abbrev s_Ages____init__ : Stmt := inClass (top 12) 0
abbrev nm_Ages____init__ : List Str := ["self"]
theorem sc_Ages____init__ : FnScope nm_Ages____init__ ["self"] (defScope s_Ages____init__) := ⟨rfl, rfl, rfl, by decide +kernel, rfl, by decide +kernel, by decide +kernel⟩
abbrev s_Ages__enter : Stmt := inClass (top 12) 1
abbrev nm_Ages__enter : List Str := ["self", "pid", "priority", "ready"]
theorem sc_Ages__enter : FnScope nm_Ages__enter ["self", "pid", "priority", "ready"] (defScope s_Ages__enter) := ⟨rfl, rfl, rfl, by decide +kernel, rfl, by decide +kernel, by decide +kernel⟩
abbrev s_Ages__leave : Stmt := inClass (top 12) 2
abbrev nm_Ages__leave : List Str := ["self", "pid"]
theorem sc_Ages__leave : FnScope nm_Ages__leave ["self", "pid"] (defScope s_Ages__leave) := ⟨rfl, rfl, rfl, by decide +kernel, rfl, by decide +kernel, by decide +kernel⟩
abbrev s_Ages__wake : Stmt := inClass (top 12) 3
abbrev nm_Ages__wake : List Str := ["self", "pid"]
theorem sc_Ages__wake : FnScope nm_Ages__wake ["self", "pid"] (defScope s_Ages__wake) := ⟨rfl, rfl, rfl, by decide +kernel, rfl, by decide +kernel, by decide +kernel⟩
abbrev s_Ages__sleep : Stmt := inClass (top 12) 4
abbrev nm_Ages__sleep : List Str := ["self", "pid"]
theorem sc_Ages__sleep : FnScope nm_Ages__sleep ["self", "pid"] (defScope s_Ages__sleep) := ⟨rfl, rfl, rfl, by decide +kernel, rfl, by decide +kernel, by decide +kernel⟩
abbrev s_Ages__lend : Stmt := inClass (top 12) 5
abbrev nm_Ages__lend : List Str := ["self", "pid", "priority"]
theorem sc_Ages__lend : FnScope nm_Ages__lend ["self", "pid", "priority"] (defScope s_Ages__lend) := ⟨rfl, rfl, rfl, by decide +kernel, rfl, by decide +kernel, by decide +kernel⟩
abbrev s_Ages__pick : Stmt := inClass (top 12) 6
abbrev nm_Ages__pick : List Str := ["self", "pid", "ready", "picked"]
theorem sc_Ages__pick : FnScope nm_Ages__pick ["self"] (defScope s_Ages__pick) := ⟨rfl, rfl, rfl, by decide +kernel, rfl, by decide +kernel, by decide +kernel⟩
abbrev s_Ages__priority : Stmt := inClass (top 12) 7
abbrev nm_Ages__priority : List Str := ["self", "pid"]
theorem sc_Ages__priority : FnScope nm_Ages__priority ["self", "pid"] (defScope s_Ages__priority) := ⟨rfl, rfl, rfl, by decide +kernel, rfl, by decide +kernel, by decide +kernel⟩
abbrev s_Ages__age : Stmt := inClass (top 12) 8
abbrev nm_Ages__age : List Str := ["self", "pid"]
theorem sc_Ages__age : FnScope nm_Ages__age ["self", "pid"] (defScope s_Ages__age) := ⟨rfl, rfl, rfl, by decide +kernel, rfl, by decide +kernel, by decide +kernel⟩
abbrev s_Ages__rows : Stmt := inClass (top 12) 9
abbrev nm_Ages__rows : List Str := ["self", "pid"]
theorem sc_Ages__rows : FnScope nm_Ages__rows ["self"] (defScope s_Ages__rows) := ⟨rfl, rfl, rfl, by decide +kernel, rfl, by decide +kernel, by decide +kernel⟩
abbrev s_Ages____contains__ : Stmt := inClass (top 12) 11
abbrev nm_Ages____contains__ : List Str := ["self", "x"]
theorem sc_Ages____contains__ : FnScope nm_Ages____contains__ ["self", "x"] (defScope s_Ages____contains__) := ⟨rfl, rfl, rfl, by decide +kernel, rfl, by decide +kernel, by decide +kernel⟩
abbrev s_Ages___ask_member : Stmt := inClass (top 12) 14
abbrev nm_Ages___ask_member : List Str := ["self", "pid"]
theorem sc_Ages___ask_member : FnScope nm_Ages___ask_member ["self", "pid"] (defScope s_Ages___ask_member) := ⟨rfl, rfl, rfl, by decide +kernel, rfl, by decide +kernel, by decide +kernel⟩
abbrev s_Ages___effective : Stmt := inClass (top 12) 15
abbrev nm_Ages___effective : List Str := ["self", "pid"]
theorem sc_Ages___effective : FnScope nm_Ages___effective ["self", "pid"] (defScope s_Ages___effective) := ⟨rfl, rfl, rfl, by decide +kernel, rfl, by decide +kernel, by decide +kernel⟩
abbrev s_Ages___standing : Stmt := inClass (top 12) 16
abbrev nm_Ages___standing : List Str := ["self", "pid"]
theorem sc_Ages___standing : FnScope nm_Ages___standing ["self", "pid"] (defScope s_Ages___standing) := ⟨rfl, rfl, rfl, by decide +kernel, rfl, by decide +kernel, by decide +kernel⟩
abbrev s__law_called : Stmt := top 23
abbrev nm__law_called : List Str := ["ages", "call"]
theorem sc__law_called : FnScope nm__law_called ["ages", "call"] (defScope s__law_called) := ⟨rfl, rfl, rfl, by decide +kernel, rfl, by decide +kernel, by decide +kernel⟩
abbrev s__law_is_integer : Stmt := top 22
abbrev nm__law_is_integer : List Str := ["value", "low", "high"]
theorem sc__law_is_integer : FnScope nm__law_is_integer ["value", "low", "high"] (defScope s__law_is_integer) := ⟨rfl, rfl, rfl, by decide +kernel, rfl, by decide +kernel, by decide +kernel⟩
abbrev s__law_named : Stmt := top 24
abbrev nm__law_named : List Str := ["ages", "call"]
theorem sc__law_named : FnScope nm__law_named ["ages", "call"] (defScope s__law_named) := ⟨rfl, rfl, rfl, by decide +kernel, rfl, by decide +kernel, by decide +kernel⟩
abbrev s__law_drawn : Stmt := top 25
abbrev nm__law_drawn : List Str := ["store", "table", "pids", "pid", "way", "row"]
theorem sc__law_drawn : FnScope nm__law_drawn ["store", "table"] (defScope s__law_drawn) := ⟨rfl, rfl, rfl, by decide +kernel, rfl, by decide +kernel, by decide +kernel⟩
abbrev s__law_due_rows : Stmt := top 26
abbrev nm__law_due_rows : List Str := ["table", "call", "pid", "due", "row"]
theorem sc__law_due_rows : FnScope nm__law_due_rows ["table", "call"] (defScope s__law_due_rows) := ⟨rfl, rfl, rfl, by decide +kernel, rfl, by decide +kernel, by decide +kernel⟩
abbrev s__law_is_picked : Stmt := top 27
abbrev nm__law_is_picked : List Str := ["table", "who", "after", "row", "due", "age"]
theorem sc__law_is_picked : FnScope nm__law_is_picked ["table", "who", "after"] (defScope s__law_is_picked) := ⟨rfl, rfl, rfl, by decide +kernel, rfl, by decide +kernel, by decide +kernel⟩
abbrev s__law_after : Stmt := top 28
abbrev nm__law_after : List Str := ["ages", "table", "call", "named", "told", "after", "row", "asked"]
theorem sc__law_after : FnScope nm__law_after ["ages", "table", "call", "named"] (defScope s__law_after) := ⟨rfl, rfl, rfl, by decide +kernel, rfl, by decide +kernel, by decide +kernel⟩
abbrev s_law : Stmt := top 29
abbrev nm_law : List Str := ["script", "store", "ages", "other", "still", "table", "k", "call", "named", "times", "j"]
theorem sc_law : FnScope nm_law ["script"] (defScope s_law) := ⟨rfl, rfl, rfl, by decide +kernel, rfl, by decide +kernel, by decide +kernel⟩
end
end K23
namespace K23
open PySem PySem.Spec PyProof.Rows L2 Wk
/-! ### the head -/
/-! ### what is looked at: the module's names and the interpreter's own statics -/
def obsA (as : List Addr) (fa : List He.Fa) (fn : List He.DefD) (tf : List He.Defn) (ex : PySem.W.Frag → Bool) (g : Addr → Option Obj) : He.AlX := (He.obsT fa fn [] (He.frT g as), ex (He.frT g as) && He.tabsB g tf (He.frT g as))
theorem saysA {as : List Addr} {fa : List He.Fa} {fn : List He.DefD} {tf : List He.Defn} {ex : PySem.W.Frag → Bool} {w : World} {h : Heap} (e : obsA as fa fn tf ex h.get? = He.valX fn [] w) : He.SaysX fa fn [] tf ex w h (He.frT h.get? as) := by
  have e1 : He.obsT fa fn [] (He.frT h.get? as) = He.valT fn [] w := congrArg (fun z : He.AlX => z.1) e
  have e2 : (ex (He.frT h.get? as) && He.tabsB h.get? tf (He.frT h.get? as)) = true := congrArg (fun z : He.AlX => z.2) e
  obtain ⟨h1, h2⟩ := He.ba e2
  have tb : ∀ p ∈ tf, PySem.W.codeHdIn (He.frT h.get? as) (He.cT (He.frT h.get? as) p).1 (He.cT (He.frT h.get? as) p).2 = true ∧ ∃ o, h.get? (He.cT (He.frT h.get? as) p).2 = some o ∧ He.emptyTab o = true := fun p hp => by
    obtain ⟨z1, z2⟩ := He.ba (List.all_eq_true.mp h2 p hp)
    refine ⟨z1, ?_⟩
    split at z2
    · exact ⟨_, by assumption, z2⟩
    · cases z2
  exact ⟨e1, h1, fun p hp => (tb p hp).1, fun p hp => let ⟨_, _, q, z⟩ := tb p hp; He.frT_none q z, fun p hp => let ⟨_, _, q, z⟩ := tb p hp; q.trans (congrArg some (He.emptyTab_eq z))⟩
def tupAt (K : PySem.W.Frag) (a : Addr) (vs : List V) : Bool := match K.lookup a with
  | some ⟨.type c, _, .seq its _, _⟩ => decide (c = "tuple") && (decide (its.size ≤ sizeLine) && He.relAll vs its.toList)
  | _ => false
theorem tupAt_ok {K : PySem.W.Frag} {a : Addr} {vs : List V} (h : tupAt K a vs = true) (H : Hp) : SqT K H a vs := by
  unfold tupAt at h
  split at h
  · rename_i c d its n sl q
    obtain ⟨h1, h2⟩ := He.ba h
    obtain ⟨h3, h4⟩ := He.ba h2
    exact .inr ⟨_, its, n, q, congrArg Value.type (of_decide_eq_true h1), rfl, of_decide_eq_true h3, He.relAll_ok h4⟩
  · cases h

def bmB (K : PySem.W.Frag) (x m : Str) : Bool := let f := He.ma K (He.ga K x) m
  He.eqO (PySem.W.specialIn K (.ref f) "__get__") (some (some (.builtin "function.__get__"))) && (decide (PySem.W.takesIn K (.ref f) = some false) && (!PySem.W.copiedNames.contains m && PySem.W.fnIn K f))
theorem bmB_ok {K : PySem.W.Frag} {x m : Str} (h : bmB K x m = true) (hm : Meth K (He.ga K x) m (He.ma K (He.ga K x) m)) : BMeth K (He.ga K x) m (He.ma K (He.ga K x) m) := by
  obtain ⟨h1, h⟩ := He.ba h
  obtain ⟨h2, h⟩ := He.ba h
  obtain ⟨h3, h4⟩ := He.ba h
  exact ⟨hm, He.eqO_ok h1, of_decide_eq_true h2, by simpa using h3, h4⟩
def ex (K : PySem.W.Frag) : Bool := bmB K "Ages" "_standing"
def d_is_integer : He.DefD := ⟨("is_integer", none), "is_integer", "is_integer", defArgs s_is_integer, defBody s_is_integer, defScope s_is_integer, [], []⟩
def d_is_in_range : He.DefD := ⟨("is_in_range", none), "is_in_range", "is_in_range", defArgs s_is_in_range, defBody s_is_in_range, defScope s_is_in_range, [], []⟩
def d_ask_range : He.DefD := ⟨("ask_range", none), "ask_range", "ask_range", defArgs s_ask_range, defBody s_ask_range, defScope s_ask_range, [], []⟩
def d_ask_truth : He.DefD := ⟨("ask_truth", none), "ask_truth", "ask_truth", defArgs s_ask_truth, defBody s_ask_truth, defScope s_ask_truth, [], []⟩
def d__law_mixed : He.DefD := ⟨("_law_mixed", none), "_law_mixed", "_law_mixed", defArgs s__law_mixed, defBody s__law_mixed, defScope s__law_mixed, [], []⟩
def d__law_store : He.DefD := ⟨("_law_store", none), "_law_store", "_law_store", defArgs s__law_store, defBody s__law_store, defScope s__law_store, [], []⟩
def d__law_take : He.DefD := ⟨("_law_take", none), "_law_take", "_law_take", defArgs s__law_take, defBody s__law_take, defScope s__law_take, [], []⟩
def d__law_pick : He.DefD := ⟨("_law_pick", none), "_law_pick", "_law_pick", defArgs s__law_pick, defBody s__law_pick, defScope s__law_pick, [], []⟩
def d__law_between : He.DefD := ⟨("_law_between", none), "_law_between", "_law_between", defArgs s__law_between, defBody s__law_between, defScope s__law_between, [], []⟩
def d__law_size : He.DefD := ⟨("_law_size", none), "_law_size", "_law_size", defArgs s__law_size, defBody s__law_size, defScope s__law_size, [], []⟩
def d__law_alike : He.DefD := ⟨("_law_alike", none), "_law_alike", "_law_alike", defArgs s__law_alike, defBody s__law_alike, defScope s__law_alike, [], []⟩
def d__law_copy : He.DefD := ⟨("_law_copy", none), "_law_copy", "_law_copy", defArgs s__law_copy, defBody s__law_copy, defScope s__law_copy, [], []⟩
def d__law_is_integer : He.DefD := ⟨("_law_is_integer", none), "_law_is_integer", "_law_is_integer", defArgs s__law_is_integer, defBody s__law_is_integer, defScope s__law_is_integer, [], []⟩
def d__law_called : He.DefD := ⟨("_law_called", none), "_law_called", "_law_called", defArgs s__law_called, defBody s__law_called, defScope s__law_called, [], []⟩
def d__law_named : He.DefD := ⟨("_law_named", none), "_law_named", "_law_named", defArgs s__law_named, defBody s__law_named, defScope s__law_named, [], []⟩
def d__law_drawn : He.DefD := ⟨("_law_drawn", none), "_law_drawn", "_law_drawn", defArgs s__law_drawn, defBody s__law_drawn, defScope s__law_drawn, [], []⟩
def d__law_due_rows : He.DefD := ⟨("_law_due_rows", none), "_law_due_rows", "_law_due_rows", defArgs s__law_due_rows, defBody s__law_due_rows, defScope s__law_due_rows, [], []⟩
def d__law_is_picked : He.DefD := ⟨("_law_is_picked", none), "_law_is_picked", "_law_is_picked", defArgs s__law_is_picked, defBody s__law_is_picked, defScope s__law_is_picked, [], []⟩
def d__law_after : He.DefD := ⟨("_law_after", none), "_law_after", "_law_after", defArgs s__law_after, defBody s__law_after, defScope s__law_after, [], []⟩
def d_law : He.DefD := ⟨("law", none), "law", "law", defArgs s_law, defBody s_law, defScope s_law, [], []⟩
def d_M_leave : He.DefD := ⟨("Ages", some "leave"), "leave", "Ages.leave", defArgs s_Ages__leave, defBody s_Ages__leave, defScope s_Ages__leave, [], []⟩
def d_M_wake : He.DefD := ⟨("Ages", some "wake"), "wake", "Ages.wake", defArgs s_Ages__wake, defBody s_Ages__wake, defScope s_Ages__wake, [], []⟩
def d_M_sleep : He.DefD := ⟨("Ages", some "sleep"), "sleep", "Ages.sleep", defArgs s_Ages__sleep, defBody s_Ages__sleep, defScope s_Ages__sleep, [], []⟩
def d_M_pick : He.DefD := ⟨("Ages", some "pick"), "pick", "Ages.pick", defArgs s_Ages__pick, defBody s_Ages__pick, defScope s_Ages__pick, [], []⟩
def d_M_priority : He.DefD := ⟨("Ages", some "priority"), "priority", "Ages.priority", defArgs s_Ages__priority, defBody s_Ages__priority, defScope s_Ages__priority, [], []⟩
def d_M_age : He.DefD := ⟨("Ages", some "age"), "age", "Ages.age", defArgs s_Ages__age, defBody s_Ages__age, defScope s_Ages__age, [], []⟩
def d_M_rows : He.DefD := ⟨("Ages", some "rows"), "rows", "Ages.rows", defArgs s_Ages__rows, defBody s_Ages__rows, defScope s_Ages__rows, [], []⟩
def d_M___contains__ : He.DefD := ⟨("Ages", some "__contains__"), "__contains__", "Ages.__contains__", defArgs s_Ages____contains__, defBody s_Ages____contains__, defScope s_Ages____contains__, [], []⟩
def d_M__ask_member : He.DefD := ⟨("Ages", some "_ask_member"), "_ask_member", "Ages._ask_member", defArgs s_Ages___ask_member, defBody s_Ages___ask_member, defScope s_Ages___ask_member, [], []⟩
def d_M__effective : He.DefD := ⟨("Ages", some "_effective"), "_effective", "Ages._effective", defArgs s_Ages___effective, defBody s_Ages___effective, defScope s_Ages___effective, [], []⟩
def d_M_enter : He.DefD := ⟨("Ages", some "enter"), "enter", "Ages.enter", defArgs s_Ages__enter, defBody s_Ages__enter, defScope s_Ages__enter, [.int 3], [("ready", .bl true)]⟩
def d_M_lend : He.DefD := ⟨("Ages", some "lend"), "lend", "Ages.lend", defArgs s_Ages__lend, defBody s_Ages__lend, defScope s_Ages__lend, [.int 0], []⟩
def d_M__standing : He.DefD := ⟨("Ages", some "_standing"), "_standing", "Ages._standing", defArgs s_Ages___standing, defBody s_Ages___standing, defScope s_Ages___standing, [], []⟩
def d_M___init__ : He.DefD := ⟨("Ages", some "__init__"), "__init__", "Ages.__init__", defArgs s_Ages____init__, defBody s_Ages____init__, defScope s_Ages____init__, [], []⟩
def fn0 : List He.DefD := [d_is_integer, d_is_in_range, d_ask_range, d_ask_truth, d__law_mixed, d__law_store, d__law_take, d__law_pick, d__law_between, d__law_size, d__law_alike, d__law_copy]
def fn1 : List He.DefD := [d__law_is_integer, d__law_called, d__law_named, d__law_drawn, d__law_due_rows, d__law_is_picked, d__law_after, d_law, d_M_leave, d_M_wake, d_M_sleep, d_M_pick]
def fn2 : List He.DefD := [d_M_priority, d_M_age, d_M_rows, d_M___contains__, d_M__ask_member, d_M__effective, d_M_enter, d_M_lend, d_M__standing, d_M___init__]
def fn : List He.DefD := fn0 ++ (fn1 ++ (fn2))
def fa0 : List He.Fa := [.glo "is_integer", .glo "is_in_range", .glo "ask_range", .glo "ask_truth", .glo "_law_mixed", .glo "_law_store", .glo "_law_take", .glo "_law_pick", .glo "_law_between", .glo "_law_size", .glo "_law_alike", .glo "_law_copy"]
def fa1 : List He.Fa := [.glo "_law_is_integer", .glo "_law_called", .glo "_law_named", .glo "_law_drawn", .glo "_law_due_rows", .glo "_law_is_picked", .glo "_law_after", .glo "law", .glo "Ages", .cls "Ages", .noat "Ages" "_members", .mkr "Ages"]
def fa2 : List He.Fa := [.meth "Ages" "leave", .meth "Ages" "wake", .meth "Ages" "sleep", .meth "Ages" "pick", .meth "Ages" "priority", .meth "Ages" "age", .meth "Ages" "rows", .meth "Ages" "__contains__", .meth "Ages" "_ask_member", .meth "Ages" "_effective", .meth "Ages" "enter", .meth "Ages" "lend"]
def fa3 : List He.Fa := [.meth "Ages" "_standing", .free "int", .free "len", .free "range", .free "list", .free "abs", .free "min", .free "max", .free "isinstance", .free "bool", .free "str", .free "tuple"]
def fa4 : List He.Fa := [.free "dict", .free "sorted", .free "all", .free "any", .free "zip", .free "enumerate", .free "sum"]
def fa : List He.Fa := fa0 ++ (fa1 ++ (fa2 ++ (fa3 ++ (fa4))))
def tf : List He.Defn := []
def NN : Nat := 6
abbrev AlY : Type := He.AlX
def asY (g : Addr → Option Obj) : List Addr := He.asD g NN ++ [cStatics]
def obsY (g : Addr → Option Obj) : AlY := obsA (asY g) fa fn tf ex g
theorem saysY (w : World) (s : Shared) (e : obsY s.heap.get? = He.valX fn [] w) : ∃ K : PySem.W.Frag, K.In s.heap ∧ He.SaysX fa fn [] tf ex w s.heap K := by
  have e1 : obsA (asY s.heap.get?) fa fn tf ex s.heap.get? = He.valX fn [] w := e
  exact ⟨He.frT s.heap.get? (asY s.heap.get?), He.frT_in, saysA e1⟩
def hookY : PySem.W.Hook where
  α := AlY
  obs := fun s => obsY s.heap.get?
  val := fun w => He.valX fn [] w
  says := fun w h => ∃ K : PySem.W.Frag, K.In h ∧ He.SaysX fa fn [] tf ex w h K
  of := fun _ s e => saysY _ s e
  keeps := fun _ _ _ ⟨K, hK, c⟩ k => ⟨K, PySem.W.Frag.In.keeps hK k, ⟨c.t, c.more, c.hd, c.out, fun p hp => k _ _ (c.empty p hp)⟩⟩
def ob (s : PySem.W.SharedT) : AlY := obsY (HandSHeadRun.getT s)
theorem ob_eq (s : PySem.W.SharedT) : ob s = hookY.obs s.abs := by
  show obsY (HandSHeadRun.getT s) = obsY s.abs.heap.get?
  rw [show HandSHeadRun.getT s = s.abs.heap.get? from funext (HandSHeadRun.getT_eq s)]
abbrev R : PySem.W.OpenRow := PySem.W.OpenLaw.row PySem.Challenge.rw_wardwork_k23_each_deed_changes_one_row
def loose0 : List Str := ["WardError", "BadArgument", "Unknown", "Taken", "Ages", "_wall", "is_integer", "is_in_range", "ask_range", "ask_truth", "_law_mixed", "_law_store"]
def loose1 : List Str := ["_law_take", "_law_pick", "_law_between", "_law_size", "_law_alike", "_law_copy", "_law_is_integer", "_law_called", "_law_named", "_law_drawn", "_law_due_rows", "_law_is_picked"]
def loose2 : List Str := ["_law_after"]
def loose : List Str := loose0 ++ (loose1 ++ (loose2))
end K23
namespace K23
open PySem PySem.Spec PyProof.Rows L2 Wk
theorem run (w : World) : HandSHeadRun.RunEq R (PySem.W.view R.prog [29]) hookY ob 20000 loose w := by
  intro os
  kernel_rfl
end K23
set_option Elab.async false
set_option linter.all false
set_option maxRecDepth 100000
set_option maxHeartbeats 4000000
namespace K23
open PySem PySem.Spec PyProof.Rows L2 Wk
local macro_rules | `(tactic| walk_at "u1") => `(tactic| fail "no more")
local macro_rules | `(tactic| walk_at "pos") => `(tactic| first | assumption | omega | decide | (simp only [Int.ofNat_eq_natCast] at *; omega))
local macro_rules | `(tactic| walk_at "sz") => `(tactic| first
  | (simp only [List.length_cons, List.length_nil]; decide)
  | exact Evl.sz_of (by omega)
  | exact Evl.sz_lt (by omega)
  | exact Evl.sz_of (by simp only [List.length_map, List.length_append, List.length_cons, List.length_nil, List.length_replicate]; omega)
  | exact Evl.sz_lt (by simp only [List.length_map, List.length_append, List.length_cons, List.length_nil, List.length_replicate]; omega))
local macro_rules | `(tactic| walk_at "cond") => `(tactic| first
  | exact Or.inr ⟨by decide, by decide⟩
  | (show (0 : Int) < _; first | decide | assumption | omega)
  | exact Or.inl ⟨by omega, by omega⟩
  | exact Or.inr ⟨by omega, by omega⟩
  | exact ⟨by decide, by decide, by decide⟩
  | exact log2_lt (by omega) (by omega)
  | exact ⟨by omega, by omega⟩)
local macro_rules | `(tactic| walk_at "ty") => `(tactic| first
  | exact ty_int | exact ty_bl | exact ty_str | exact ty_non
  | exact ty_L (by assumption) | exact ty_T (by assumption)
  | exact ty_L (SqL.of (by assumption)) | exact ty_T (SqT.of (by assumption)))
local macro_rules | `(tactic| walk_at "kit") => `(tactic| first
  | exact k_ii | exact k_ib | exact k_is | exact k_il | exact k_it
  | exact k_bb | exact k_bi | exact k_bs | exact k_bl | exact k_bt
  | exact k_ss | exact k_sb | exact k_si | exact k_sl | exact k_st
  | exact k_ll | exact k_lb | exact k_li | exact k_ls | exact k_lt
  | exact k_tt | exact k_tb | exact k_ti | exact k_ts | exact k_tl
  | exact k_nn | exact k_ni | exact k_ns | exact k_nl | exact k_nt)
local macro_rules | `(tactic| walk_at "s1") => `(tactic| first
  | with_reducible refine w_seq ?_
  | with_reducible refine w_set ?_
  | with_reducible refine w_op ?_
  | ((with_reducible refine' w_var ?h1 ?_); (case h1 => rfl))
  | with_reducible refine w_c ?_
  | with_reducible refine w_cb ?_
  | with_reducible refine w_cons ?_
  | with_reducible refine w_nil ?_
  | with_reducible refine w_I0 ?_
  | ((with_reducible refine' w_I ?c1 ?_); case c1 => walk_at "cond")
  | with_reducible refine w_ret ?_
  | with_reducible refine w_next ?_
  | with_reducible refine w_ifS ?_
  | with_reducible refine w_test ?_
  | with_reducible refine w_tB ?_
  | with_reducible refine w_k ?_
  | with_reducible refine w_eqI ?_
  | with_reducible refine w_neI ?_
  | with_reducible refine w_eqS ?_
  | with_reducible refine w_neS ?_
  | with_reducible refine w_and ?_
  | with_reducible refine w_or ?_
  | with_reducible refine w_not ?_
  | with_reducible refine w_andV ?_
  | with_reducible refine w_orV ?_
  | with_reducible refine w_notV ?_
  | with_reducible refine w_ifE ?_
  | with_reducible refine w_true ?_
  | with_reducible refine w_false ?_
  | with_reducible refine w_ntrue ?_
  | with_reducible refine w_nfalse ?_
  | with_reducible refine w_call ?_
  | with_reducible refine c_int ?_
  | with_reducible refine c_abs ?_
  | with_reducible refine c_max ?_
  | with_reducible refine c_min ?_
  | with_reducible refine w_drop ?_
  | with_reducible refine w_sfld ?_
  | with_reducible refine w_meth ?_
  | with_reducible refine w_make ?_
  | with_reducible refine w_prop ?_
  | with_reducible refine w_callK ?_
  | with_reducible refine w_callN ?_
  | with_reducible refine w_star ?_
  | with_reducible refine w_gcons ?_
  | with_reducible refine w_gname ?_
  | with_reducible refine w_gnil ?_
  | with_reducible refine w_retN ?_
  | with_reducible refine w_tup ?_
  | with_reducible refine w_lst ?_
  | with_reducible refine w_fld ?_
  | with_reducible refine w_bm ?_
  | with_reducible refine w_bm0 ?_
  | with_reducible refine w_forL ?_
  | with_reducible refine w_forT ?_
  | with_reducible refine w_forS ?_
  | with_reducible refine w_forR ?_
  | with_reducible refine w_lcR ?_
  | with_reducible refine w_lcL ?_
  | with_reducible refine w_lcT ?_
  | with_reducible refine w_isN ?_
  | with_reducible refine w_notN ?_
  | with_reducible refine w_asg ?_
  | with_reducible refine w_gsub ?_
  | ((with_reducible refine' w_aug ?h1 ?_); (case h1 => rfl))
  | with_reducible refine w_augS ?_
  | with_reducible refine w_ipI ?_
  | with_reducible refine w_un ?_
  | with_reducible refine w_U ?_
  | ((with_reducible refine' w_iteF ?f1 ?_); case f1 => (first | (intro h; cases h; done) | decide))
  | ((with_reducible refine' w_iteT ?f1 ?_); case f1 => rfl)
  | ((with_reducible refine' w_iteNF ?f1 ?_); case f1 => rfl)
  | ((with_reducible refine' w_iteNT ?f1 ?_); case f1 => (first | (intro h; cases h; done) | decide))
  | ((with_reducible refine' c_isi ?t1 ?k1 ?_); (case t1 => walk_at "ty"); (case k1 => walk_at "kit"))
  | ((with_reducible refine' w_eq ?e1 ?_); case e1 => rfl)
  | ((with_reducible refine' w_ne ?e1 ?_); case e1 => rfl)
  | walk_at "u1")
local macro_rules | `(tactic| walk_at "s") => `(tactic| repeat walk_at "s1")
local macro_rules | `(tactic| walk_at "mem") => `(tactic| first | with_reducible exact List.mem_cons_self .. | ((with_reducible refine' List.mem_cons_of_mem _ ?q); (case q => walk_at "mem")) | assumption | ((with_reducible refine' List.mem_append_right _ ?q); (case q => walk_at "mem")) | (exact List.mem_append_left _ (by assumption)))
local macro_rules | `(tactic| walk_at "pk") => `(tactic| first | with_reducible exact Pk.here | ((with_reducible refine' Pk.there ?q); (case q => walk_at "pk")) | ((with_reducible refine' Pk.app ?q); (case q => walk_at "pk")))
local macro_rules | `(tactic| walk_at "pkb") => `(tactic| first | with_reducible exact PkB.here | ((with_reducible refine' PkB.there ?q); (case q => walk_at "pkb")) | ((with_reducible refine' PkB.app ?q); (case q => walk_at "pkb")))
local macro_rules | `(tactic| walk_at "spl") => `(tactic| first | with_reducible exact Spl.nil | ((with_reducible refine' Spl.cons ?h ?t); (case h => walk_at "pk"); (case t => walk_at "spl")) | ((with_reducible refine' Spl.blk ?h ?t); (case h => walk_at "pkb"); (case t => walk_at "spl")))
local macro_rules | `(tactic| walk_at "sbx") => `(tactic| first | with_reducible exact Sb.refl | with_reducible exact Sb.nil | with_reducible exact Sb.left | ((with_reducible refine' Sb.cons ?h ?t); (case h => walk_at "pk"); (case t => walk_at "sbx")) | ((with_reducible refine' Sb.blk ?h ?t); (case h => walk_at "pkb"); (case t => walk_at "sbx")) | ((with_reducible refine' Sb.drop ?q); (case q => walk_at "sbx")) | ((with_reducible refine' Sb.right ?q); (case q => walk_at "sbx")))
local macro_rules | `(tactic| walk_at "hd") => `(tactic| first | assumption | exact Hd.sb (by assumption) (by walk_at "sbx"))
local macro_rules | `(tactic| walk_at "sq") => `(tactic| first
  | assumption
  | exact Hd.sqL (by assumption) (by walk_at "mem")
  | exact Hd.sqT (by assumption) (by walk_at "mem")
  | exact Hd.sqF (by assumption) (by walk_at "mem")
  | (refine .inl ?_; walk_at "sq")
  | (refine .inr ?_; walk_at "sq"))
local macro_rules | `(tactic| walk_at "at") => `(tactic| first | rfl | assumption | exact atI_nat (by assumption))
local macro_rules | `(tactic| walk_at "dn1") => `(tactic| first
  | exact Dn.int | exact Dn.str | exact Dn.non | exact Dn.bl | assumption
  | ((refine' Dn.tp ?a1 ?m1 ?l1 ?p1); (case a1 => assumption); (case m1 => walk_at "mem"); (case l1 => (simp only [List.length_cons, List.length_nil]; omega)); (case p1 => walk_at "dns"))
  | ((refine' Dn.lt ?a1 ?m1 ?l1 ?p1); (case a1 => assumption); (case m1 => walk_at "mem"); (case l1 => (simp only [List.length_cons, List.length_nil]; omega)); (case p1 => walk_at "dns")))
local macro_rules | `(tactic| walk_at "dns") => `(tactic| first | exact Paired.nil | exact Dn.ints | ((refine' Paired.cons ?a1 ?b1); (case a1 => walk_at "dn1"); (case b1 => walk_at "dns")))
local macro_rules | `(tactic| walk_at "g1") => `(tactic| first
  | ((with_reducible refine' g_ixI ?h1 ?h2 ?h3 ?_); (case h1 => assumption); (case h2 => walk_at "mem"); (case h3 => omega); intro z hz)
  | ((with_reducible refine' g_ixIT ?h1 ?h2 ?h3 ?_); (case h1 => assumption); (case h2 => walk_at "mem"); (case h3 => omega); intro z hz)
  | ((with_reducible refine' g_setI ?h1 ?h2 ?h3 ?_); (case h1 => assumption); (case h2 => walk_at "pk"); (case h3 => omega); intro H2 hh2)
  | ((with_reducible refine' w_ixL ?h1 ?h2 ?_); (case h1 => walk_at "sq"); (case h2 => walk_at "at"))
  | ((with_reducible refine' w_ixT ?h1 ?h2 ?_); (case h1 => walk_at "sq"); (case h2 => walk_at "at"))
  | ((with_reducible refine' w_ixAny ?h1 ?h2 ?_); (case h1 => walk_at "sq"); (case h2 => walk_at "at"))
  | ((with_reducible refine' c_lenA ?h1 ?_); (case h1 => walk_at "sq"))
  | ((with_reducible refine' c_isi ?t1 ?k1 ?_); (case t1 => first | exact ty_T (by walk_at "sq") | exact ty_L (by walk_at "sq")); (case k1 => walk_at "kit"))
  | ((with_reducible refine' g_lst ?h1 ?h2 ?_); (case h1 => assumption); (case h2 => walk_at "sz"); intro p H2 hh2)
  | ((with_reducible refine' g_tup ?h1 ?h2 ?_); (case h1 => assumption); (case h2 => walk_at "sz"); intro p H2 hh2)
  | ((with_reducible refine' g_dict ?h1 ?_); (case h1 => assumption); intro p H2 hh2)
  | ((with_reducible refine' g_listL ?h1 ?h2 ?_); (case h1 => assumption); (case h2 => walk_at "sq"); intro p H2 hh2)
  | ((with_reducible refine' g_listT ?h1 ?h2 ?_); (case h1 => assumption); (case h2 => walk_at "sq"); intro p H2 hh2)
  | ((with_reducible refine' g_tupL ?h1 ?h2 ?_); (case h1 => assumption); (case h2 => walk_at "sq"); intro p H2 hh2)
  | ((with_reducible refine' g_set ?h1 ?h2 ?h3 ?_); (case h1 => assumption); (case h2 => walk_at "pk"); (case h3 => first | rfl | assumption | exact Evl.ixN_nat (by first | omega | (simp only [List.length_cons, List.length_nil]; omega))); intro H2 hh2)
  | ((with_reducible refine' g_kbm ?h1 ?h2 ?_); (case h1 => assumption); (case h2 => walk_at "mem"))
  | ((with_reducible refine' g_kbm0 ?h1 ?h2 ?_); (case h1 => assumption); (case h2 => walk_at "mem"))
  | ((with_reducible refine' g_app ?h1 ?h2 ?h3 ?_); (case h1 => assumption); (case h2 => walk_at "pk"); (case h3 => walk_at "sz"); intro H2 hh2)
  | ((with_reducible refine' g_kapp ?h1 ?h2 ?h3 ?_); (case h1 => assumption); (case h2 => walk_at "pk"); (case h3 => walk_at "sz"); intro H2 hh2)
  | ((with_reducible refine' g_fld ?h1 ?h2 ?h3 ?h4 ?h5 ?_); (case h1 => assumption); (case h2 => walk_at "mem"); (case h3 => assumption); (case h4 => assumption); (case h5 => rfl))
  | ((with_reducible refine' g_sfld ?h1 ?h2 ?h3 ?h4 ?h5 ?_); (case h1 => assumption); (case h2 => walk_at "pk"); (case h3 => assumption); (case h4 => assumption); (case h5 => decide); intro H2 hh2)
  | ((with_reducible refine' g_meth ?h1 ?h2 ?h3 ?_); (case h1 => assumption); (case h2 => walk_at "mem"); (case h3 => rfl))
  | ((with_reducible refine' g_prop ?h1 ?h2 ?_); (case h1 => assumption); (case h2 => walk_at "mem"))
  | ((with_reducible refine' g_make ?h1 ?_); (case h1 => assumption); intro x H2 hh2)
  | ((with_reducible refine' g_cat ?h1 ?h2 ?h3 ?h4 ?_); (case h1 => assumption); (case h2 => walk_at "mem"); (case h3 => walk_at "mem"); (case h4 => walk_at "sz"); intro p H2 hh2)
  | ((with_reducible refine' g_inT ?h1 ?h2 ?h3 ?h4 ?h5 ?_); (case h1 => assumption); (case h2 => walk_at "mem"); (case h3 => rfl); (case h4 => rfl); (case h5 => rfl)))
local macro_rules | `(tactic| walk_at "gs") => `(tactic| repeat first | walk_at "s1" | walk_at "g1")
local macro_rules | `(tactic| walk_at "ite") => `(tactic| first
  | ((with_reducible refine' w_iteT ?h1 ?_); (case h1 => omega))
  | ((with_reducible refine' w_iteF ?h1 ?_); (case h1 => omega))
  | (with_reducible refine w_ite ?_ ?_ <;> intro hq)
  | ((with_reducible refine' w_iteNT ?h1 ?_); (case h1 => omega))
  | ((with_reducible refine' w_iteNF ?h1 ?_); (case h1 => omega))
  | (with_reducible refine w_iteN ?_ ?_ <;> intro hq))
local macro_rules | `(tactic| walk_at "go") => `(tactic| repeat' first | walk_at "s1" | walk_at "g1" | walk_at "ite")
section
variable {P : Program} {w : World} {K : PySem.W.Frag} {mg : Str → Option Value} {base : Heap} {aREG aOPS : Addr}
/-! ### the draws: what every law draws with -/
/-- the store of draws at st, the script's cells at c -/
def StoreAt (H : Hp) (st c : Addr) : Prop := ∃ (ns : List Int) (i b t z : Int), H st = some (.lst [.ref c, .int i, .int b, .int t, .int z]) ∧ H c = some (.lst (ns.map V.int)) ∧ 0 ≤ i ∧ 0 ≤ b ∧ 0 ≤ z ∧ z < 2147483647
theorem StoreAt.ne {H : Hp} {st c : Addr} (S : StoreAt H st c) : c ≠ st := by
  obtain ⟨ns, i, b, t, z, h1, h2, _⟩ := S
  refine ne_of h2 h1 fun e => ?_
  cases ns with
  | nil => cases e
  | cons n ns => cases e
theorem StoreAt.upt {H H' : Hp} {st c : Addr} {S : List Addr} (s : StoreAt H st c) (u : Upt S H H') (h1 : st ∉ S) (h2 : c ∉ S) : StoreAt H' st c := by
  obtain ⟨ns, i, b, t, z, e1, e2, r⟩ := s
  exact ⟨ns, i, b, t, z, u _ _ h1 e1, u _ _ h2 e2, r⟩
theorem StoreAt.new {H H' : Hp} {st c p : Addr} {o : HO} (s : StoreAt H st c) (n : New H H' p o) : StoreAt H' st c := s.upt n.keep (by simp) (by simp)
theorem StoreAt.off {H H' : Hp} {st c p : Addr} {o : HO} (s : StoreAt H st c) (n : New H H' p o) : p ≠ st ∧ p ≠ c := by
  obtain ⟨ns, i, b, t, z, e1, e2, r⟩ := s
  exact ⟨n.ne' e1, n.ne' e2⟩
theorem StoreAt.chg {H H' : Hp} {st c p : Addr} {o : HO} (s : StoreAt H st c) (n : Chg H H' p o) (h1 : p ≠ st) (h2 : p ≠ c) : StoreAt H' st c := s.upt n.keep (fun z => h1 (List.mem_singleton.mp z).symm) (fun z => h2 (List.mem_singleton.mp z).symm)
theorem store_chg {H H' : Hp} {st c : Addr} {ns : List Int} {i b t z : Int} (n : Chg H H' st (.lst [.ref c, .int i, .int b, .int t, .int z])) (e : H c = some (.lst (ns.map V.int))) (ne : c ≠ st) (h1 : 0 ≤ i) (h2 : 0 ≤ b) (h3 : 0 ≤ z) (h4 : z < 2147483647) : StoreAt H' st c :=
  ⟨ns, i, b, t, z, n.at_, n.keep.at1 ne e, h1, h2, h3, h4⟩
/-- a number that is drawn: how the store and the heap may stand behind it -/
def Drawn (st c : Addr) (H : Hp) (P : Int → Prop) (Q : VK) : Prop := ∀ (k : Int) (H' : Hp), P k → StoreAt H' st c → Upt [st] H H' → Q (.int k) H'
/-- number and turn give something from 0 to many - 1 -/
def sp_mixed : Sp := fun vs H Q _ => ∃ n t m : Int, vs = [.int n, .int t, .int m] ∧ 0 < m ∧ ∀ k : Int, 0 ≤ k → k < m → Q (.int k) H
theorem c_mixed (T : Txt K mg aREG aOPS) (d : DefAt K mg "_law_mixed" s__law_mixed) : C8.Cal P w K mg base 1 "_law_mixed" sp_mixed [] := by
  refine mk d sc__law_mixed (fun _ _ _ _ _ _ us hl => match us, hl with | [_, _, _], _ => rfl) (fun vs H Q E h => ?_) (fun f cdv A outer s H vs Q E hr h => ?_)
  · obtain ⟨n, t, m, rfl, _⟩ := h
    rfl
  · obtain ⟨n, t, m, rfl, hm, k⟩ := h
    refine ⟨_, (pss_cons (ps_set (i := 3) sc__law_mixed.nd rfl (Or.inl rfl) (pe_op op_mod (pe_callTy Wk.b_int (by rfl) T.b_int (by decide +kernel) (pa_cons (pe_op op_add (pe_op op_add (pe_op op_mul (pe_callTy Wk.b_int (by rfl) T.b_int (by decide +kernel) (pa_cons (pv 0) pa_nil)) pe_int) (pe_op op_mul (pe_callTy Wk.b_int (by rfl) T.b_int (by decide +kernel) (pa_cons (pv 1) pa_nil)) pe_int)) pe_int) pa_nil)) pe_int))
  (pss_cons (ps_set (i := 4) sc__law_mixed.nd rfl (Or.inl rfl) (pe_op op_mod (pe_callTy Wk.b_int (by rfl) T.b_int (by decide +kernel) (pa_cons (pe_op op_add (pe_op op_add (pe_op op_mul (pv 3) (pv 3)) (pe_op op_mul (pe_callTy Wk.b_int (by rfl) T.b_int (by decide +kernel) (pa_cons (pv 1) pa_nil)) pe_int)) pe_int) pa_nil)) pe_int))
  (pss_cons (ps_set (i := 5) sc__law_mixed.nd rfl (Or.inl rfl) (pe_op op_mod (pe_callTy Wk.b_int (by rfl) T.b_int (by decide +kernel) (pa_cons (pe_op op_add (pe_op op_mul (pv 4) (pv 4)) (pv 3)) pa_nil)) pe_int))
  (pss_cons (ps_if (pt_cmpR op_gt (pv 2) pe_int (nomark _))
    (pss_one (ps_ret (pe_op op_mod (pe_callTy Wk.b_int (by rfl) T.b_int (by decide +kernel) (pa_cons (pe_op op_add (pe_op op_mul (pv 4) pe_int) (pv 5)) pa_nil)) (pv 2))))
    pss_nil)
  (pss_one (ps_ret (pe_op op_mod (pv 5) (pv 2)))))))), ?_⟩
    walk_at "s"
    refine w_ite (fun h1 => ?_) (fun h1 => ?_)
    all_goals walk_at "s"
    all_goals exact k _ (Int.emod_nonneg _ (by omega)) (Int.emod_lt_of_pos _ hm)
theorem u_mixed {n t m : Int} {H : Hp} {Q : VK} {E : XK} (hm : 0 < m) (q : ∀ k : Int, 0 ≤ k → k < m → Q (.int k) H) : sp_mixed [.int n, .int t, .int m] H Q E := ⟨n, t, m, rfl, hm, q⟩
def sp_store (K : PySem.W.Frag) : Sp := fun vs H Q _ => ∃ (a : Addr) (ns : List Int) (salt : Int), vs = [.ref a, .int salt] ∧ SqL K H a (ns.map V.int) ∧ ns.length ≤ 63 ∧ 0 ≤ salt ∧ salt ≤ 200000 ∧
  ∀ st c H', H st = none → H c = none → StoreAt H' st c → Upt [] H H' → Q (.ref st) H'
theorem c_store (T : Txt K mg aREG aOPS) (d : DefAt K mg "_law_store" s__law_store) : C8.Cal P w K mg base 1 "_law_store" (sp_store K) [] := by
  refine mk d sc__law_store (fun _ _ _ _ _ _ us hl => match us, hl with | [_, _], _ => rfl) (fun vs H Q E h => ?_) (fun f cdv A outer s H vs Q E hr h => ?_)
  · obtain ⟨a, ns, z, rfl, _⟩ := h
    rfl
  · obtain ⟨a, ns, z, rfl, hS, hl, hz0, hz1, k⟩ := h
    refine ⟨_, (pss_cons (ps_set (i := 2) sc__law_store.nd rfl (Or.inl rfl) (pe_op op_add (pe_op op_mul (pv 1) pe_int) (pe_callB Wk.b_len (by rfl) T.b_len (by decide +kernel) (pa_cons (pv 0) pa_nil))))
  (pss_cons (ps_for PassesOwn.never rfl (pi_list (pv 0)) (pg_name (i := 3) sc__law_store.nd rfl (Or.inl rfl))
    (pss_one (ps_set (i := 2) sc__law_store.nd rfl (Or.inl rfl) (pe_op op_mod (pe_callTy Wk.b_int (by rfl) T.b_int (by decide +kernel) (pa_cons (pe_op op_add (pe_op op_add (pe_op op_mul (pv 2) pe_int) (pe_op op_mod (pe_callTy Wk.b_int (by rfl) T.b_int (by decide +kernel) (pa_cons (pv 3) pa_nil)) pe_int)) pe_int) pa_nil)) pe_int))))
  (pss_one (ps_ret (pe_lst (pa_cons (pe_callTy Wk.b_list (by rfl) T.b_list (by decide +kernel) (pa_cons (pv 0) pa_nil)) (pa_cons pe_int (pa_cons pe_int (pa_cons pe_int (pa_cons (pv 2) pa_nil)))))))))), ?_⟩
    walk_at "s"
    refine c_lenL hS ?_
    walk_at "s"
    refine l_list hS (fun i σ H2 => H2 = H ∧ ∃ (s : Int) (v : Option V), σ = [some (.ref a), some (.int z), some (.int s), v] ∧ 0 ≤ s ∧ s < 2147483647) ⟨rfl, _, _, rfl, ?_, ?_⟩ (fun i σ H2 _ ⟨e, _⟩ => by rw [e]; exact hS) ?_ ?_
    · rw [List.length_map]; omega
    · rw [List.length_map]; omega
    · rintro i y σ H2 hi ⟨rfl, s, v, rfl, h0, h1⟩
      obtain ⟨n, rfl⟩ := item_int hi
      walk_at "s"
      exact ⟨rfl, _, _, rfl, Int.emod_nonneg _ (by omega), Int.emod_lt_of_pos _ (by omega)⟩
    · rintro σ H2 ⟨rfl, s, v, rfl, h0, h1⟩
      walk_at "s"
      refine c_listL hS fun c H3 n3 => ?_
      walk_at "s"
      refine w_new (by walk_at "sz") fun st H4 n4 => ?_
      have e := n4.keep.at0 n3.at_
      exact k st c H4 (n3.keep.free (by simp) n4.no) n3.no ⟨ns, 0, 0, 0, s, n4.at_, e, by omega, by omega, h0, h1⟩ (n3.keep.trans n4.keep)
theorem u_store {a : Addr} {ns : List Int} {z : Int} {H : Hp} {Q : VK} {E : XK} (h : SqL K H a (ns.map V.int)) (hl : ns.length ≤ 63) (h0 : 0 ≤ z) (h1 : z ≤ 200000) (q : ∀ st c H', H st = none → H c = none → StoreAt H' st c → Upt [] H H' → Q (.ref st) H') : sp_store K [.ref a, .int z] H Q E :=
  ⟨a, ns, z, rfl, h, hl, h0, h1, q⟩
def sp_take : Sp := fun vs H Q _ => ∃ (st c : Addr) (m : Int), vs = [.ref st, .int m] ∧ StoreAt H st c ∧ m ≤ 4611686018427387904 ∧ Drawn st c H (fun k => 0 ≤ k ∧ (k < m ∨ k = 0)) Q
theorem c_take (T : Txt K mg aREG aOPS) (d : DefAt K mg "_law_take" s__law_take) (c__law_mixed : C8.Cal P w K mg base 1 "_law_mixed" sp_mixed []) : C8.Cal P w K mg base 2 "_law_take" sp_take [] := by
  refine mk d sc__law_take (fun _ _ _ _ _ _ us hl => match us, hl with | [_, _], _ => rfl) (fun vs H Q E h => ?_) (fun f cdv A outer s H vs Q E hr h => ?_)
  · obtain ⟨st, c, m, rfl, _⟩ := h
    rfl
  · obtain ⟨st, c, m, rfl, S, hm, k⟩ := h
    have ne := S.ne
    obtain ⟨ns, i, b, t, z, h1, h2, hi, hb, hz0, hz1⟩ := S
    refine ⟨_, (pss_cons (ps_augS (pv 0) pe_int Wk.get_list pe_int ip_add set_list)
  (pss_cons (ps_if (pt_cmpR op_lt (pv 1) pe_int (nomark _))
    (pss_one (ps_ret pe_int))
    pss_nil)
  (C8.pss_cut (ps_if (PW.pt (pw_and (pt_cmpR op_eq (pe_ix ix_list (pv 0) pe_int (fun _ _ => rfl)) pe_int (nomark _)) (pw_and1 (pt_cmpR op_lt (pe_ix ix_list (pv 0) pe_int (fun _ _ => rfl)) (pe_callB Wk.b_len (by rfl) T.b_len (by decide +kernel) (pa_cons (pe_ix ix_list (pv 0) pe_int (fun _ _ => rfl)) pa_nil)) (nomark _)))))
    (pss_cons (ps_set (i := 2) sc__law_take.nd rfl (Or.inl rfl) (pe_callTy Wk.b_int (by rfl) T.b_int (by decide +kernel) (pa_cons (pe_ix ix_list (pe_ix ix_list (pv 0) pe_int (fun _ _ => rfl)) (pe_ix ix_list (pv 0) pe_int (fun _ _ => rfl)) (fun _ _ => rfl)) pa_nil)))
      (pss_cons (ps_augS (pv 0) pe_int Wk.get_list pe_int ip_add set_list)
      (pss_cons (ps_if (pt_cmpR op_lt (pe_callB Wk.b_abs (by rfl) T.b_abs (by decide +kernel) (pa_cons (pv 2) pa_nil)) (pe_op op_pow pe_int pe_int) (nomark _))
        (pss_one (ps_ret (C8.pe_c c__law_mixed hr (by first | decide | omega) rfl (pa_cons (pv 2) (pa_cons (pe_ix ix_list (pv 0) pe_int (fun _ _ => rfl)) (pa_cons (pv 1) pa_nil))))))
        pss_nil)
      (pss_one (ps_asg (pe_callB Wk.b_abs (by rfl) T.b_abs (by decide +kernel) (pa_cons (pv 2) pa_nil)) (pg_sub (pv 0) pe_int set_list))))))
    pss_nil)
  (pss_cons (ps_if (pt_cmpR op_eq (pe_ix ix_list (pv 0) pe_int (fun _ _ => rfl)) pe_int (nomark _))
    (pss_one (ps_ret (C8.pe_c c__law_mixed hr (by first | decide | omega) rfl (pa_cons (pe_ix ix_list (pv 0) pe_int (fun _ _ => rfl)) (pa_cons (pe_ix ix_list (pv 0) pe_int (fun _ _ => rfl)) (pa_cons (pv 1) pa_nil))))))
    pss_nil)
  (pss_cons (ps_set (i := 3) sc__law_take.nd rfl (Or.inl rfl) (pe_op op_mod (pe_callTy Wk.b_int (by rfl) T.b_int (by decide +kernel) (pa_cons (pe_ix ix_list (pv 0) pe_int (fun _ _ => rfl)) pa_nil)) (pv 1)))
  (pss_cons (ps_asg (pe_op op_fdivW (pe_callTy Wk.b_int (by rfl) T.b_int (by decide +kernel) (pa_cons (pe_ix ix_list (pv 0) pe_int (fun _ _ => rfl)) pa_nil)) (pv 1)) (pg_sub (pv 0) pe_int set_list))
  (pss_one (ps_ret (pv 3))))))))), ?_⟩
    walk_at "s"
    refine w_ixL (SqL.of h1) rfl ?_
    walk_at "s"
    refine w_setI h1 rfl fun H2 g2 => ?_
    walk_at "s"
    have a2 : H2 st = some (.lst [.ref c, .int i, .int b, .int (t + 1), .int z]) := g2.at_
    have e2 : H2 c = some (.lst (ns.map V.int)) := g2.keep.at1 ne h2
    refine w_ite (fun q1 => ?_) (fun q1 => ?_)
    · walk_at "s"
      exact k 0 H2 ⟨by omega, .inr rfl⟩ (store_chg g2 h2 ne hi hb hz0 hz1) g2.keep
    · walk_at "s"
      refine w_cut (fun σ H3 => Upt [st] H H3 ∧ H3 c = some (.lst (ns.map V.int)) ∧ ∃ (i b : Int) (v : Option V), 0 ≤ i ∧ 0 ≤ b ∧ H3 st = some (.lst [.ref c, .int i, .int b, .int (t + 1), .int z]) ∧ σ = [some (.ref st), some (.int m), v, none]) ?_ ?_
      · walk_at "s"
        refine w_ixL (SqL.of a2) rfl ?_
        walk_at "s"
        refine w_ite (fun q2 => ?_) (fun q2 => ?_)
        · walk_at "s"
          refine w_ixL (SqL.of a2) rfl ?_
          walk_at "s"
          refine w_ixL (SqL.of a2) rfl ?_
          walk_at "s"
          refine c_lenL (SqL.of e2) ?_
          walk_at "s"
          rw [List.length_map]
          refine w_ite (fun q3 => ?_) (fun q3 => ?_)
          · obtain ⟨n, hn, hat⟩ := atI_ints hi q3
            walk_at "s"
            refine w_ixL (SqL.of a2) rfl ?_
            walk_at "s"
            refine w_ixL (SqL.of a2) rfl ?_
            walk_at "s"
            refine w_ixL (SqL.of e2) hat ?_
            walk_at "s"
            refine w_ixL (SqL.of a2) rfl ?_
            walk_at "s"
            refine w_setI a2 rfl fun H3 g3 => ?_
            walk_at "s"
            have a3 : H3 st = some (.lst [.ref c, .int (i + 1), .int b, .int (t + 1), .int z]) := g3.at_
            have e3 : H3 c = some (.lst (ns.map V.int)) := g3.keep.at1 ne e2
            refine w_ite (fun q4 => ?_) (fun q4 => ?_)
            · walk_at "s"
              refine w_ixL (SqL.of a3) rfl ?_
              walk_at "s"
              refine u_mixed (by omega) fun v hv0 hv1 => ?_
              exact k v H3 ⟨hv0, .inl hv1⟩ ⟨ns, _, _, _, _, a3, e3, by omega, hb, hz0, hz1⟩ (g2.keep.trans g3.keep)
            · walk_at "s"
              refine w_setI a3 rfl fun H4 g4 => ?_
              walk_at "s"
              have hb4 : 0 ≤ (if n < 0 then -n else n) := by split <;> omega
              exact ⟨(g2.keep.trans g3.keep).trans g4.keep, g4.keep.at1 ne e3, _, _, _, by omega, hb4, g4.at_, rfl⟩
          · walk_at "s"
            exact ⟨g2.keep, e2, _, _, _, hi, hb, a2, rfl⟩
        · walk_at "s"
          exact ⟨g2.keep, e2, _, _, _, hi, hb, a2, rfl⟩
      · rintro σ H3 ⟨u3, e3, i3, b3, v, hi3, hb3, a3, rfl⟩
        walk_at "s"
        refine w_ixL (SqL.of a3) rfl ?_
        walk_at "s"
        refine w_ite (fun q2 => ?_) (fun q2 => ?_)
        · walk_at "s"
          refine w_ixL (SqL.of a3) rfl ?_
          walk_at "s"
          refine w_ixL (SqL.of a3) rfl ?_
          walk_at "s"
          refine u_mixed (by omega) fun v hv0 hv1 => ?_
          exact k v H3 ⟨hv0, .inl hv1⟩ ⟨ns, _, _, _, _, a3, e3, hi3, hb3, hz0, hz1⟩ u3
        · walk_at "s"
          refine w_ixL (SqL.of a3) rfl ?_
          walk_at "s"
          refine w_ixL (SqL.of a3) rfl ?_
          walk_at "s"
          refine w_setI a3 rfl fun H4 g4 => ?_
          walk_at "s"
          exact k _ H4 ⟨Int.emod_nonneg _ (by omega), .inl (Int.emod_lt_of_pos _ (by omega))⟩ ⟨ns, _, _, _, _, g4.at_, g4.keep.at1 ne e3, hi3, Int.ediv_nonneg hb3 (by omega), hz0, hz1⟩ (u3.trans g4.keep)
theorem u_take {st c : Addr} {m : Int} {H : Hp} {Q : VK} {E : XK} (S : StoreAt H st c) (hm : m ≤ 4611686018427387904) (q : ∀ k H', 0 ≤ k ∧ (k < m ∨ k = 0) → StoreAt H' st c → Upt [st] H H' → Q (.int k) H') : sp_take [.ref st, .int m] H Q E :=
  ⟨st, c, m, rfl, S, hm, q⟩
end
end K23
set_option Elab.async false
set_option linter.all false
set_option maxRecDepth 100000
set_option maxHeartbeats 4000000
namespace K23
open PySem PySem.Spec PyProof.Rows L2 Wk
local macro_rules | `(tactic| walk_at "u1") => `(tactic| fail "no more")
local macro_rules | `(tactic| walk_at "pos") => `(tactic| first | assumption | omega | decide | (simp only [Int.ofNat_eq_natCast] at *; omega))
local macro_rules | `(tactic| walk_at "sz") => `(tactic| first
  | (simp only [List.length_cons, List.length_nil]; decide)
  | exact Evl.sz_of (by omega)
  | exact Evl.sz_lt (by omega)
  | exact Evl.sz_of (by simp only [List.length_map, List.length_append, List.length_cons, List.length_nil, List.length_replicate]; omega)
  | exact Evl.sz_lt (by simp only [List.length_map, List.length_append, List.length_cons, List.length_nil, List.length_replicate]; omega))
local macro_rules | `(tactic| walk_at "cond") => `(tactic| first
  | exact Or.inr ⟨by decide, by decide⟩
  | (show (0 : Int) < _; first | decide | assumption | omega)
  | exact Or.inl ⟨by omega, by omega⟩
  | exact Or.inr ⟨by omega, by omega⟩
  | exact ⟨by decide, by decide, by decide⟩
  | exact log2_lt (by omega) (by omega)
  | exact ⟨by omega, by omega⟩)
local macro_rules | `(tactic| walk_at "ty") => `(tactic| first
  | exact ty_int | exact ty_bl | exact ty_str | exact ty_non
  | exact ty_L (by assumption) | exact ty_T (by assumption)
  | exact ty_L (SqL.of (by assumption)) | exact ty_T (SqT.of (by assumption)))
local macro_rules | `(tactic| walk_at "kit") => `(tactic| first
  | exact k_ii | exact k_ib | exact k_is | exact k_il | exact k_it
  | exact k_bb | exact k_bi | exact k_bs | exact k_bl | exact k_bt
  | exact k_ss | exact k_sb | exact k_si | exact k_sl | exact k_st
  | exact k_ll | exact k_lb | exact k_li | exact k_ls | exact k_lt
  | exact k_tt | exact k_tb | exact k_ti | exact k_ts | exact k_tl
  | exact k_nn | exact k_ni | exact k_ns | exact k_nl | exact k_nt)
local macro_rules | `(tactic| walk_at "s1") => `(tactic| first
  | with_reducible refine w_seq ?_
  | with_reducible refine w_set ?_
  | with_reducible refine w_op ?_
  | ((with_reducible refine' w_var ?h1 ?_); (case h1 => rfl))
  | with_reducible refine w_c ?_
  | with_reducible refine w_cb ?_
  | with_reducible refine w_cons ?_
  | with_reducible refine w_nil ?_
  | with_reducible refine w_I0 ?_
  | ((with_reducible refine' w_I ?c1 ?_); case c1 => walk_at "cond")
  | with_reducible refine w_ret ?_
  | with_reducible refine w_next ?_
  | with_reducible refine w_ifS ?_
  | with_reducible refine w_test ?_
  | with_reducible refine w_tB ?_
  | with_reducible refine w_k ?_
  | with_reducible refine w_eqI ?_
  | with_reducible refine w_neI ?_
  | with_reducible refine w_eqS ?_
  | with_reducible refine w_neS ?_
  | with_reducible refine w_and ?_
  | with_reducible refine w_or ?_
  | with_reducible refine w_not ?_
  | with_reducible refine w_andV ?_
  | with_reducible refine w_orV ?_
  | with_reducible refine w_notV ?_
  | with_reducible refine w_ifE ?_
  | with_reducible refine w_true ?_
  | with_reducible refine w_false ?_
  | with_reducible refine w_ntrue ?_
  | with_reducible refine w_nfalse ?_
  | with_reducible refine w_call ?_
  | with_reducible refine c_int ?_
  | with_reducible refine c_abs ?_
  | with_reducible refine c_max ?_
  | with_reducible refine c_min ?_
  | with_reducible refine w_drop ?_
  | with_reducible refine w_sfld ?_
  | with_reducible refine w_meth ?_
  | with_reducible refine w_make ?_
  | with_reducible refine w_prop ?_
  | with_reducible refine w_callK ?_
  | with_reducible refine w_callN ?_
  | with_reducible refine w_star ?_
  | with_reducible refine w_gcons ?_
  | with_reducible refine w_gname ?_
  | with_reducible refine w_gnil ?_
  | with_reducible refine w_retN ?_
  | with_reducible refine w_tup ?_
  | with_reducible refine w_lst ?_
  | with_reducible refine w_fld ?_
  | with_reducible refine w_bm ?_
  | with_reducible refine w_bm0 ?_
  | with_reducible refine w_forL ?_
  | with_reducible refine w_forT ?_
  | with_reducible refine w_forS ?_
  | with_reducible refine w_forR ?_
  | with_reducible refine w_lcR ?_
  | with_reducible refine w_lcL ?_
  | with_reducible refine w_lcT ?_
  | with_reducible refine w_isN ?_
  | with_reducible refine w_notN ?_
  | with_reducible refine w_asg ?_
  | with_reducible refine w_gsub ?_
  | ((with_reducible refine' w_aug ?h1 ?_); (case h1 => rfl))
  | with_reducible refine w_augS ?_
  | with_reducible refine w_ipI ?_
  | with_reducible refine w_un ?_
  | with_reducible refine w_U ?_
  | ((with_reducible refine' w_iteF ?f1 ?_); case f1 => (first | (intro h; cases h; done) | decide))
  | ((with_reducible refine' w_iteT ?f1 ?_); case f1 => rfl)
  | ((with_reducible refine' w_iteNF ?f1 ?_); case f1 => rfl)
  | ((with_reducible refine' w_iteNT ?f1 ?_); case f1 => (first | (intro h; cases h; done) | decide))
  | ((with_reducible refine' c_isi ?t1 ?k1 ?_); (case t1 => walk_at "ty"); (case k1 => walk_at "kit"))
  | ((with_reducible refine' w_eq ?e1 ?_); case e1 => rfl)
  | ((with_reducible refine' w_ne ?e1 ?_); case e1 => rfl)
  | walk_at "u1")
local macro_rules | `(tactic| walk_at "s") => `(tactic| repeat walk_at "s1")
local macro_rules | `(tactic| walk_at "mem") => `(tactic| first | with_reducible exact List.mem_cons_self .. | ((with_reducible refine' List.mem_cons_of_mem _ ?q); (case q => walk_at "mem")) | assumption | ((with_reducible refine' List.mem_append_right _ ?q); (case q => walk_at "mem")) | (exact List.mem_append_left _ (by assumption)))
local macro_rules | `(tactic| walk_at "pk") => `(tactic| first | with_reducible exact Pk.here | ((with_reducible refine' Pk.there ?q); (case q => walk_at "pk")) | ((with_reducible refine' Pk.app ?q); (case q => walk_at "pk")))
local macro_rules | `(tactic| walk_at "pkb") => `(tactic| first | with_reducible exact PkB.here | ((with_reducible refine' PkB.there ?q); (case q => walk_at "pkb")) | ((with_reducible refine' PkB.app ?q); (case q => walk_at "pkb")))
local macro_rules | `(tactic| walk_at "spl") => `(tactic| first | with_reducible exact Spl.nil | ((with_reducible refine' Spl.cons ?h ?t); (case h => walk_at "pk"); (case t => walk_at "spl")) | ((with_reducible refine' Spl.blk ?h ?t); (case h => walk_at "pkb"); (case t => walk_at "spl")))
local macro_rules | `(tactic| walk_at "sbx") => `(tactic| first | with_reducible exact Sb.refl | with_reducible exact Sb.nil | with_reducible exact Sb.left | ((with_reducible refine' Sb.cons ?h ?t); (case h => walk_at "pk"); (case t => walk_at "sbx")) | ((with_reducible refine' Sb.blk ?h ?t); (case h => walk_at "pkb"); (case t => walk_at "sbx")) | ((with_reducible refine' Sb.drop ?q); (case q => walk_at "sbx")) | ((with_reducible refine' Sb.right ?q); (case q => walk_at "sbx")))
local macro_rules | `(tactic| walk_at "hd") => `(tactic| first | assumption | exact Hd.sb (by assumption) (by walk_at "sbx"))
local macro_rules | `(tactic| walk_at "sq") => `(tactic| first
  | assumption
  | exact Hd.sqL (by assumption) (by walk_at "mem")
  | exact Hd.sqT (by assumption) (by walk_at "mem")
  | exact Hd.sqF (by assumption) (by walk_at "mem")
  | (refine .inl ?_; walk_at "sq")
  | (refine .inr ?_; walk_at "sq"))
local macro_rules | `(tactic| walk_at "at") => `(tactic| first | rfl | assumption | exact atI_nat (by assumption))
local macro_rules | `(tactic| walk_at "dn1") => `(tactic| first
  | exact Dn.int | exact Dn.str | exact Dn.non | exact Dn.bl | assumption
  | ((refine' Dn.tp ?a1 ?m1 ?l1 ?p1); (case a1 => assumption); (case m1 => walk_at "mem"); (case l1 => (simp only [List.length_cons, List.length_nil]; omega)); (case p1 => walk_at "dns"))
  | ((refine' Dn.lt ?a1 ?m1 ?l1 ?p1); (case a1 => assumption); (case m1 => walk_at "mem"); (case l1 => (simp only [List.length_cons, List.length_nil]; omega)); (case p1 => walk_at "dns")))
local macro_rules | `(tactic| walk_at "dns") => `(tactic| first | exact Paired.nil | exact Dn.ints | ((refine' Paired.cons ?a1 ?b1); (case a1 => walk_at "dn1"); (case b1 => walk_at "dns")))
local macro_rules | `(tactic| walk_at "g1") => `(tactic| first
  | ((with_reducible refine' g_ixI ?h1 ?h2 ?h3 ?_); (case h1 => assumption); (case h2 => walk_at "mem"); (case h3 => omega); intro z hz)
  | ((with_reducible refine' g_ixIT ?h1 ?h2 ?h3 ?_); (case h1 => assumption); (case h2 => walk_at "mem"); (case h3 => omega); intro z hz)
  | ((with_reducible refine' g_setI ?h1 ?h2 ?h3 ?_); (case h1 => assumption); (case h2 => walk_at "pk"); (case h3 => omega); intro H2 hh2)
  | ((with_reducible refine' w_ixL ?h1 ?h2 ?_); (case h1 => walk_at "sq"); (case h2 => walk_at "at"))
  | ((with_reducible refine' w_ixT ?h1 ?h2 ?_); (case h1 => walk_at "sq"); (case h2 => walk_at "at"))
  | ((with_reducible refine' w_ixAny ?h1 ?h2 ?_); (case h1 => walk_at "sq"); (case h2 => walk_at "at"))
  | ((with_reducible refine' c_lenA ?h1 ?_); (case h1 => walk_at "sq"))
  | ((with_reducible refine' c_isi ?t1 ?k1 ?_); (case t1 => first | exact ty_T (by walk_at "sq") | exact ty_L (by walk_at "sq")); (case k1 => walk_at "kit"))
  | ((with_reducible refine' g_lst ?h1 ?h2 ?_); (case h1 => assumption); (case h2 => walk_at "sz"); intro p H2 hh2)
  | ((with_reducible refine' g_tup ?h1 ?h2 ?_); (case h1 => assumption); (case h2 => walk_at "sz"); intro p H2 hh2)
  | ((with_reducible refine' g_dict ?h1 ?_); (case h1 => assumption); intro p H2 hh2)
  | ((with_reducible refine' g_listL ?h1 ?h2 ?_); (case h1 => assumption); (case h2 => walk_at "sq"); intro p H2 hh2)
  | ((with_reducible refine' g_listT ?h1 ?h2 ?_); (case h1 => assumption); (case h2 => walk_at "sq"); intro p H2 hh2)
  | ((with_reducible refine' g_tupL ?h1 ?h2 ?_); (case h1 => assumption); (case h2 => walk_at "sq"); intro p H2 hh2)
  | ((with_reducible refine' g_set ?h1 ?h2 ?h3 ?_); (case h1 => assumption); (case h2 => walk_at "pk"); (case h3 => first | rfl | assumption | exact Evl.ixN_nat (by first | omega | (simp only [List.length_cons, List.length_nil]; omega))); intro H2 hh2)
  | ((with_reducible refine' g_kbm ?h1 ?h2 ?_); (case h1 => assumption); (case h2 => walk_at "mem"))
  | ((with_reducible refine' g_kbm0 ?h1 ?h2 ?_); (case h1 => assumption); (case h2 => walk_at "mem"))
  | ((with_reducible refine' g_app ?h1 ?h2 ?h3 ?_); (case h1 => assumption); (case h2 => walk_at "pk"); (case h3 => walk_at "sz"); intro H2 hh2)
  | ((with_reducible refine' g_kapp ?h1 ?h2 ?h3 ?_); (case h1 => assumption); (case h2 => walk_at "pk"); (case h3 => walk_at "sz"); intro H2 hh2)
  | ((with_reducible refine' g_fld ?h1 ?h2 ?h3 ?h4 ?h5 ?_); (case h1 => assumption); (case h2 => walk_at "mem"); (case h3 => assumption); (case h4 => assumption); (case h5 => rfl))
  | ((with_reducible refine' g_sfld ?h1 ?h2 ?h3 ?h4 ?h5 ?_); (case h1 => assumption); (case h2 => walk_at "pk"); (case h3 => assumption); (case h4 => assumption); (case h5 => decide); intro H2 hh2)
  | ((with_reducible refine' g_meth ?h1 ?h2 ?h3 ?_); (case h1 => assumption); (case h2 => walk_at "mem"); (case h3 => rfl))
  | ((with_reducible refine' g_prop ?h1 ?h2 ?_); (case h1 => assumption); (case h2 => walk_at "mem"))
  | ((with_reducible refine' g_make ?h1 ?_); (case h1 => assumption); intro x H2 hh2)
  | ((with_reducible refine' g_cat ?h1 ?h2 ?h3 ?h4 ?_); (case h1 => assumption); (case h2 => walk_at "mem"); (case h3 => walk_at "mem"); (case h4 => walk_at "sz"); intro p H2 hh2)
  | ((with_reducible refine' g_inT ?h1 ?h2 ?h3 ?h4 ?h5 ?_); (case h1 => assumption); (case h2 => walk_at "mem"); (case h3 => rfl); (case h4 => rfl); (case h5 => rfl)))
local macro_rules | `(tactic| walk_at "gs") => `(tactic| repeat first | walk_at "s1" | walk_at "g1")
local macro_rules | `(tactic| walk_at "ite") => `(tactic| first
  | ((with_reducible refine' w_iteT ?h1 ?_); (case h1 => omega))
  | ((with_reducible refine' w_iteF ?h1 ?_); (case h1 => omega))
  | (with_reducible refine w_ite ?_ ?_ <;> intro hq)
  | ((with_reducible refine' w_iteNT ?h1 ?_); (case h1 => omega))
  | ((with_reducible refine' w_iteNF ?h1 ?_); (case h1 => omega))
  | (with_reducible refine w_iteN ?_ ?_ <;> intro hq))
local macro_rules | `(tactic| walk_at "go") => `(tactic| repeat' first | walk_at "s1" | walk_at "g1" | walk_at "ite")
section
variable {P : Program} {w : World} {K : PySem.W.Frag} {mg : Str → Option Value} {base : Heap} {aREG aOPS : Addr}
def sp_pick (K : PySem.W.Frag) : Sp := fun vs H Q _ => ∃ (st c r : Addr) (xs : List V), vs = [.ref st, .ref r] ∧ StoreAt H st c ∧ SqL K H r xs ∧ r ≠ st ∧ 0 < xs.length ∧ xs.length ≤ 100000 ∧
  ∀ v H', v ∈ xs → StoreAt H' st c → Upt [st] H H' → Q v H'
theorem c_pick (T : Txt K mg aREG aOPS) (d : DefAt K mg "_law_pick" s__law_pick) (c__law_take : C8.Cal P w K mg base 2 "_law_take" sp_take []) : C8.Cal P w K mg base 3 "_law_pick" (sp_pick K) [] := by
  refine mk d sc__law_pick (fun _ _ _ _ _ _ us hl => match us, hl with | [_, _], _ => rfl) (fun vs H Q E h => ?_) (fun f cdv A outer s H vs Q E hr h => ?_)
  · obtain ⟨st, c, r, xs, rfl, _⟩ := h
    rfl
  · obtain ⟨st, c, r, xs, rfl, S, hr1, hne, h0, h1, k⟩ := h
    refine ⟨_, (pss_one (ps_ret (pe_ix ix_list (pv 1) (C8.pe_c c__law_take hr (by first | decide | omega) rfl (pa_cons (pv 0) (pa_cons (pe_callB Wk.b_len (by rfl) T.b_len (by decide +kernel) (pa_cons (pv 1) pa_nil)) pa_nil))) (fun _ _ => rfl)))), ?_⟩
    walk_at "s"
    refine c_lenL hr1 ?_
    walk_at "s"
    refine u_take S (by omega) fun n H2 hn S2 U2 => ?_
    walk_at "s"
    obtain ⟨j, rfl⟩ := Int.eq_ofNat_of_zero_le hn.1
    have hj : j < xs.length := by omega
    refine w_ixL (Upt.seqL U2 (by simpa using hne) hr1) (atI_nat (List.getElem?_eq_getElem hj)) ?_
    exact k _ H2 (List.getElem_mem hj) S2 U2
theorem u_pick {st c r : Addr} {xs : List V} {H : Hp} {Q : VK} {E : XK} (S : StoreAt H st c) (hr : SqL K H r xs) (hne : r ≠ st) (h0 : 0 < xs.length) (h1 : xs.length ≤ 100000) (q : ∀ v H', v ∈ xs → StoreAt H' st c → Upt [st] H H' → Q v H') : sp_pick K [.ref st, .ref r] H Q E :=
  ⟨st, c, r, xs, rfl, S, hr, hne, h0, h1, q⟩
def sp_between : Sp := fun vs H Q _ => ∃ (st c : Addr) (lo hi : Int), vs = [.ref st, .int lo, .int hi] ∧ StoreAt H st c ∧ lo ≤ hi ∧ hi - lo < 4611686018427387904 ∧ Drawn st c H (fun k => lo ≤ k ∧ k ≤ hi) Q
theorem c_between (T : Txt K mg aREG aOPS) (d : DefAt K mg "_law_between" s__law_between) (c__law_take : C8.Cal P w K mg base 2 "_law_take" sp_take []) : C8.Cal P w K mg base 3 "_law_between" sp_between [] := by
  refine mk d sc__law_between (fun _ _ _ _ _ _ us hl => match us, hl with | [_, _, _], _ => rfl) (fun vs H Q E h => ?_) (fun f cdv A outer s H vs Q E hr h => ?_)
  · obtain ⟨st, c, lo, hi, rfl, _⟩ := h
    rfl
  · obtain ⟨st, c, lo, hi, rfl, S, h0, h1, k⟩ := h
    refine ⟨_, (pss_cons (ps_set (i := 3) sc__law_between.nd rfl (Or.inl rfl) (pe_op op_add (pe_op op_sub (pv 2) (pv 1)) pe_int))
  (pss_cons (ps_set (i := 4) sc__law_between.nd rfl (Or.inl rfl) (C8.pe_c c__law_take hr (by first | decide | omega) rfl (pa_cons (pv 0) (pa_cons pe_int pa_nil))))
  (pss_cons (ps_if (pt_cmpR op_eq (pv 4) pe_int (nomark _))
    (pss_one (ps_ret (pe_op op_add (pv 1) (C8.pe_c c__law_take hr (by first | decide | omega) rfl (pa_cons (pv 0) (pa_cons (pe_callB (Wk.b_min rfl) (by rfl) T.b_min (by decide +kernel) (pa_cons (pv 3) (pa_cons pe_int pa_nil))) pa_nil))))))
    pss_nil)
  (pss_cons (ps_if (pt_cmpR op_eq (pv 4) pe_int (nomark _))
    (pss_one (ps_ret (pe_op op_sub (pv 2) (C8.pe_c c__law_take hr (by first | decide | omega) rfl (pa_cons (pv 0) (pa_cons (pe_callB (Wk.b_min rfl) (by rfl) T.b_min (by decide +kernel) (pa_cons (pv 3) (pa_cons pe_int pa_nil))) pa_nil))))))
    pss_nil)
  (pss_one (ps_ret (pe_op op_add (pv 1) (C8.pe_c c__law_take hr (by first | decide | omega) rfl (pa_cons (pv 0) (pa_cons (pv 3) pa_nil)))))))))), ?_⟩
    walk_at "s"
    refine u_take S (by omega) fun n H2 hn S2 U2 => ?_
    walk_at "s"
    refine w_ite (fun q1 => ?_) (fun q1 => ?_)
    · walk_at "s"
      refine u_take S2 (by split <;> omega) fun n2 H3 hn2 S3 U3 => ?_
      walk_at "s"
      exact k _ H3 (by have := hn2.2; split at this <;> omega) S3 (U2.trans U3)
    · walk_at "s"
      refine w_ite (fun q2 => ?_) (fun q2 => ?_)
      · walk_at "s"
        refine u_take S2 (by split <;> omega) fun n2 H3 hn2 S3 U3 => ?_
        walk_at "s"
        exact k _ H3 (by have := hn2.2; split at this <;> omega) S3 (U2.trans U3)
      · walk_at "s"
        refine u_take S2 (by omega) fun n2 H3 hn2 S3 U3 => ?_
        walk_at "s"
        exact k _ H3 (by omega) S3 (U2.trans U3)
theorem u_between {st c : Addr} {lo hi : Int} {H : Hp} {Q : VK} {E : XK} (S : StoreAt H st c) (h0 : lo ≤ hi) (h1 : hi - lo < 4611686018427387904) (q : ∀ k H', lo ≤ k ∧ k ≤ hi → StoreAt H' st c → Upt [st] H H' → Q (.int k) H') : sp_between [.ref st, .int lo, .int hi] H Q E :=
  ⟨st, c, lo, hi, rfl, S, h0, h1, q⟩
def sp_size : Sp := fun vs H Q _ => ∃ (st c : Addr) (m : Int), vs = [.ref st, .int m] ∧ StoreAt H st c ∧ 0 ≤ m ∧ m ≤ 1000000 ∧ Drawn st c H (fun k => 0 ≤ k ∧ k ≤ m) Q
theorem c_size (T : Txt K mg aREG aOPS) (d : DefAt K mg "_law_size" s__law_size) (c__law_take : C8.Cal P w K mg base 2 "_law_take" sp_take []) : C8.Cal P w K mg base 3 "_law_size" sp_size [] := by
  refine mk d sc__law_size (fun _ _ _ _ _ _ us hl => match us, hl with | [_, _], _ => rfl) (fun vs H Q E h => ?_) (fun f cdv A outer s H vs Q E hr h => ?_)
  · obtain ⟨st, c, m, rfl, _⟩ := h
    rfl
  · obtain ⟨st, c, m, rfl, S, h0, h1, k⟩ := h
    refine ⟨_, (pss_cons (ps_set (i := 2) sc__law_size.nd rfl (Or.inl rfl) (C8.pe_c c__law_take hr (by first | decide | omega) rfl (pa_cons (pv 0) (pa_cons pe_int pa_nil))))
  (pss_cons (ps_if (pt_cmpR op_eq (pv 2) pe_int (nomark _))
    (pss_one (ps_ret pe_int))
    pss_nil)
  (pss_cons (ps_if (pt_cmpR op_eq (pv 2) pe_int (nomark _))
    (pss_one (ps_ret (pv 1)))
    pss_nil)
  (pss_cons (ps_if (pt_cmpR op_eq (pv 2) pe_int (nomark _))
    (pss_one (ps_ret (pe_callB (Wk.b_max rfl) (by rfl) T.b_max (by decide +kernel) (pa_cons pe_int (pa_cons (pe_op op_sub (pv 1) pe_int) pa_nil)))))
    pss_nil)
  (pss_cons (ps_if (pt_cmpR op_eq (pv 2) pe_int (nomark _))
    (pss_one (ps_ret (C8.pe_c c__law_take hr (by first | decide | omega) rfl (pa_cons (pv 0) (pa_cons (pe_op op_add (pv 1) pe_int) pa_nil)))))
    pss_nil)
  (pss_one (ps_ret (C8.pe_c c__law_take hr (by first | decide | omega) rfl (pa_cons (pv 0) (pa_cons (pe_op op_add (pe_callB (Wk.b_min rfl) (by rfl) T.b_min (by decide +kernel) (pa_cons (pv 1) (pa_cons pe_int pa_nil))) pe_int) pa_nil)))))))))), ?_⟩
    walk_at "s"
    refine u_take S (by omega) fun n H2 hn S2 U2 => ?_
    walk_at "s"
    refine w_ite (fun q1 => ?_) (fun q1 => ?_)
    · walk_at "s"
      exact k _ H2 (by omega) S2 U2
    · walk_at "s"
      refine w_ite (fun q2 => ?_) (fun q2 => ?_)
      · walk_at "s"
        exact k _ H2 (by omega) S2 U2
      · walk_at "s"
        refine w_ite (fun q3 => ?_) (fun q3 => ?_)
        · walk_at "s"
          exact k _ H2 (by split <;> omega) S2 U2
        · walk_at "s"
          refine w_ite (fun q4 => ?_) (fun q4 => ?_)
          · walk_at "s"
            refine u_take S2 (by omega) fun n2 H3 hn2 S3 U3 => ?_
            exact k _ H3 (by omega) S3 (U2.trans U3)
          · walk_at "s"
            refine u_take S2 (by split <;> omega) fun n2 H3 hn2 S3 U3 => ?_
            exact k _ H3 (by have := hn2.2; split at this <;> omega) S3 (U2.trans U3)
theorem u_size {st c : Addr} {m : Int} {H : Hp} {Q : VK} {E : XK} (S : StoreAt H st c) (h0 : 0 ≤ m) (h1 : m ≤ 1000000) (q : ∀ k H', 0 ≤ k ∧ k ≤ m → StoreAt H' st c → Upt [st] H H' → Q (.int k) H') : sp_size [.ref st, .int m] H Q E :=
  ⟨st, c, m, rfl, S, h0, h1, q⟩
def sp_word : Sp := fun vs H Q _ => ∃ (st c : Addr), vs = [.ref st] ∧ StoreAt H st c ∧ Drawn st c H (fun k => 0 ≤ k ∧ k < 65536) Q
theorem u_word {st c : Addr} {H : Hp} {Q : VK} {E : XK} (S : StoreAt H st c) (q : ∀ k H', 0 ≤ k ∧ k < 65536 → StoreAt H' st c → Upt [st] H H' → Q (.int k) H') : sp_word [.ref st] H Q E :=
  ⟨st, c, rfl, S, q⟩
end
end K23
set_option Elab.async false
set_option linter.all false
set_option maxRecDepth 100000
set_option maxHeartbeats 4000000
namespace K23
open PySem PySem.Spec PyProof.Rows L2 Wk
local macro_rules | `(tactic| walk_at "u1") => `(tactic| fail "no more")
local macro_rules | `(tactic| walk_at "pos") => `(tactic| first | assumption | omega | decide | (simp only [Int.ofNat_eq_natCast] at *; omega))
local macro_rules | `(tactic| walk_at "sz") => `(tactic| first
  | (simp only [List.length_cons, List.length_nil]; decide)
  | exact Evl.sz_of (by omega)
  | exact Evl.sz_lt (by omega)
  | exact Evl.sz_of (by simp only [List.length_map, List.length_append, List.length_cons, List.length_nil, List.length_replicate]; omega)
  | exact Evl.sz_lt (by simp only [List.length_map, List.length_append, List.length_cons, List.length_nil, List.length_replicate]; omega))
local macro_rules | `(tactic| walk_at "cond") => `(tactic| first
  | exact Or.inr ⟨by decide, by decide⟩
  | (show (0 : Int) < _; first | decide | assumption | omega)
  | exact Or.inl ⟨by omega, by omega⟩
  | exact Or.inr ⟨by omega, by omega⟩
  | exact ⟨by decide, by decide, by decide⟩
  | exact log2_lt (by omega) (by omega)
  | exact ⟨by omega, by omega⟩)
local macro_rules | `(tactic| walk_at "ty") => `(tactic| first
  | exact ty_int | exact ty_bl | exact ty_str | exact ty_non
  | exact ty_L (by assumption) | exact ty_T (by assumption)
  | exact ty_L (SqL.of (by assumption)) | exact ty_T (SqT.of (by assumption)))
local macro_rules | `(tactic| walk_at "kit") => `(tactic| first
  | exact k_ii | exact k_ib | exact k_is | exact k_il | exact k_it
  | exact k_bb | exact k_bi | exact k_bs | exact k_bl | exact k_bt
  | exact k_ss | exact k_sb | exact k_si | exact k_sl | exact k_st
  | exact k_ll | exact k_lb | exact k_li | exact k_ls | exact k_lt
  | exact k_tt | exact k_tb | exact k_ti | exact k_ts | exact k_tl
  | exact k_nn | exact k_ni | exact k_ns | exact k_nl | exact k_nt)
local macro_rules | `(tactic| walk_at "s1") => `(tactic| first
  | with_reducible refine w_seq ?_
  | with_reducible refine w_set ?_
  | with_reducible refine w_op ?_
  | ((with_reducible refine' w_var ?h1 ?_); (case h1 => rfl))
  | with_reducible refine w_c ?_
  | with_reducible refine w_cb ?_
  | with_reducible refine w_cons ?_
  | with_reducible refine w_nil ?_
  | with_reducible refine w_I0 ?_
  | ((with_reducible refine' w_I ?c1 ?_); case c1 => walk_at "cond")
  | with_reducible refine w_ret ?_
  | with_reducible refine w_next ?_
  | with_reducible refine w_ifS ?_
  | with_reducible refine w_test ?_
  | with_reducible refine w_tB ?_
  | with_reducible refine w_k ?_
  | with_reducible refine w_eqI ?_
  | with_reducible refine w_neI ?_
  | with_reducible refine w_eqS ?_
  | with_reducible refine w_neS ?_
  | with_reducible refine w_and ?_
  | with_reducible refine w_or ?_
  | with_reducible refine w_not ?_
  | with_reducible refine w_andV ?_
  | with_reducible refine w_orV ?_
  | with_reducible refine w_notV ?_
  | with_reducible refine w_ifE ?_
  | with_reducible refine w_true ?_
  | with_reducible refine w_false ?_
  | with_reducible refine w_ntrue ?_
  | with_reducible refine w_nfalse ?_
  | with_reducible refine w_call ?_
  | with_reducible refine c_int ?_
  | with_reducible refine c_abs ?_
  | with_reducible refine c_max ?_
  | with_reducible refine c_min ?_
  | with_reducible refine w_drop ?_
  | with_reducible refine w_sfld ?_
  | with_reducible refine w_meth ?_
  | with_reducible refine w_make ?_
  | with_reducible refine w_prop ?_
  | with_reducible refine w_callK ?_
  | with_reducible refine w_callN ?_
  | with_reducible refine w_star ?_
  | with_reducible refine w_gcons ?_
  | with_reducible refine w_gname ?_
  | with_reducible refine w_gnil ?_
  | with_reducible refine w_retN ?_
  | with_reducible refine w_tup ?_
  | with_reducible refine w_lst ?_
  | with_reducible refine w_fld ?_
  | with_reducible refine w_bm ?_
  | with_reducible refine w_bm0 ?_
  | with_reducible refine w_forL ?_
  | with_reducible refine w_forT ?_
  | with_reducible refine w_forS ?_
  | with_reducible refine w_forR ?_
  | with_reducible refine w_lcR ?_
  | with_reducible refine w_lcL ?_
  | with_reducible refine w_lcT ?_
  | with_reducible refine w_isN ?_
  | with_reducible refine w_notN ?_
  | with_reducible refine w_asg ?_
  | with_reducible refine w_gsub ?_
  | ((with_reducible refine' w_aug ?h1 ?_); (case h1 => rfl))
  | with_reducible refine w_augS ?_
  | with_reducible refine w_ipI ?_
  | with_reducible refine w_un ?_
  | with_reducible refine w_U ?_
  | ((with_reducible refine' w_iteF ?f1 ?_); case f1 => (first | (intro h; cases h; done) | decide))
  | ((with_reducible refine' w_iteT ?f1 ?_); case f1 => rfl)
  | ((with_reducible refine' w_iteNF ?f1 ?_); case f1 => rfl)
  | ((with_reducible refine' w_iteNT ?f1 ?_); case f1 => (first | (intro h; cases h; done) | decide))
  | ((with_reducible refine' c_isi ?t1 ?k1 ?_); (case t1 => walk_at "ty"); (case k1 => walk_at "kit"))
  | ((with_reducible refine' w_eq ?e1 ?_); case e1 => rfl)
  | ((with_reducible refine' w_ne ?e1 ?_); case e1 => rfl)
  | walk_at "u1")
local macro_rules | `(tactic| walk_at "s") => `(tactic| repeat walk_at "s1")
local macro_rules | `(tactic| walk_at "mem") => `(tactic| first | with_reducible exact List.mem_cons_self .. | ((with_reducible refine' List.mem_cons_of_mem _ ?q); (case q => walk_at "mem")) | assumption | ((with_reducible refine' List.mem_append_right _ ?q); (case q => walk_at "mem")) | (exact List.mem_append_left _ (by assumption)))
local macro_rules | `(tactic| walk_at "pk") => `(tactic| first | with_reducible exact Pk.here | ((with_reducible refine' Pk.there ?q); (case q => walk_at "pk")) | ((with_reducible refine' Pk.app ?q); (case q => walk_at "pk")))
local macro_rules | `(tactic| walk_at "pkb") => `(tactic| first | with_reducible exact PkB.here | ((with_reducible refine' PkB.there ?q); (case q => walk_at "pkb")) | ((with_reducible refine' PkB.app ?q); (case q => walk_at "pkb")))
local macro_rules | `(tactic| walk_at "spl") => `(tactic| first | with_reducible exact Spl.nil | ((with_reducible refine' Spl.cons ?h ?t); (case h => walk_at "pk"); (case t => walk_at "spl")) | ((with_reducible refine' Spl.blk ?h ?t); (case h => walk_at "pkb"); (case t => walk_at "spl")))
local macro_rules | `(tactic| walk_at "sbx") => `(tactic| first | with_reducible exact Sb.refl | with_reducible exact Sb.nil | with_reducible exact Sb.left | ((with_reducible refine' Sb.cons ?h ?t); (case h => walk_at "pk"); (case t => walk_at "sbx")) | ((with_reducible refine' Sb.blk ?h ?t); (case h => walk_at "pkb"); (case t => walk_at "sbx")) | ((with_reducible refine' Sb.drop ?q); (case q => walk_at "sbx")) | ((with_reducible refine' Sb.right ?q); (case q => walk_at "sbx")))
local macro_rules | `(tactic| walk_at "hd") => `(tactic| first | assumption | exact Hd.sb (by assumption) (by walk_at "sbx"))
local macro_rules | `(tactic| walk_at "sq") => `(tactic| first
  | assumption
  | exact Hd.sqL (by assumption) (by walk_at "mem")
  | exact Hd.sqT (by assumption) (by walk_at "mem")
  | exact Hd.sqF (by assumption) (by walk_at "mem")
  | (refine .inl ?_; walk_at "sq")
  | (refine .inr ?_; walk_at "sq"))
local macro_rules | `(tactic| walk_at "at") => `(tactic| first | rfl | assumption | exact atI_nat (by assumption))
local macro_rules | `(tactic| walk_at "dn1") => `(tactic| first
  | exact Dn.int | exact Dn.str | exact Dn.non | exact Dn.bl | assumption
  | ((refine' Dn.tp ?a1 ?m1 ?l1 ?p1); (case a1 => assumption); (case m1 => walk_at "mem"); (case l1 => (simp only [List.length_cons, List.length_nil]; omega)); (case p1 => walk_at "dns"))
  | ((refine' Dn.lt ?a1 ?m1 ?l1 ?p1); (case a1 => assumption); (case m1 => walk_at "mem"); (case l1 => (simp only [List.length_cons, List.length_nil]; omega)); (case p1 => walk_at "dns")))
local macro_rules | `(tactic| walk_at "dns") => `(tactic| first | exact Paired.nil | exact Dn.ints | ((refine' Paired.cons ?a1 ?b1); (case a1 => walk_at "dn1"); (case b1 => walk_at "dns")))
local macro_rules | `(tactic| walk_at "g1") => `(tactic| first
  | ((with_reducible refine' g_ixI ?h1 ?h2 ?h3 ?_); (case h1 => assumption); (case h2 => walk_at "mem"); (case h3 => omega); intro z hz)
  | ((with_reducible refine' g_ixIT ?h1 ?h2 ?h3 ?_); (case h1 => assumption); (case h2 => walk_at "mem"); (case h3 => omega); intro z hz)
  | ((with_reducible refine' g_setI ?h1 ?h2 ?h3 ?_); (case h1 => assumption); (case h2 => walk_at "pk"); (case h3 => omega); intro H2 hh2)
  | ((with_reducible refine' w_ixL ?h1 ?h2 ?_); (case h1 => walk_at "sq"); (case h2 => walk_at "at"))
  | ((with_reducible refine' w_ixT ?h1 ?h2 ?_); (case h1 => walk_at "sq"); (case h2 => walk_at "at"))
  | ((with_reducible refine' w_ixAny ?h1 ?h2 ?_); (case h1 => walk_at "sq"); (case h2 => walk_at "at"))
  | ((with_reducible refine' c_lenA ?h1 ?_); (case h1 => walk_at "sq"))
  | ((with_reducible refine' c_isi ?t1 ?k1 ?_); (case t1 => first | exact ty_T (by walk_at "sq") | exact ty_L (by walk_at "sq")); (case k1 => walk_at "kit"))
  | ((with_reducible refine' g_lst ?h1 ?h2 ?_); (case h1 => assumption); (case h2 => walk_at "sz"); intro p H2 hh2)
  | ((with_reducible refine' g_tup ?h1 ?h2 ?_); (case h1 => assumption); (case h2 => walk_at "sz"); intro p H2 hh2)
  | ((with_reducible refine' g_dict ?h1 ?_); (case h1 => assumption); intro p H2 hh2)
  | ((with_reducible refine' g_listL ?h1 ?h2 ?_); (case h1 => assumption); (case h2 => walk_at "sq"); intro p H2 hh2)
  | ((with_reducible refine' g_listT ?h1 ?h2 ?_); (case h1 => assumption); (case h2 => walk_at "sq"); intro p H2 hh2)
  | ((with_reducible refine' g_tupL ?h1 ?h2 ?_); (case h1 => assumption); (case h2 => walk_at "sq"); intro p H2 hh2)
  | ((with_reducible refine' g_set ?h1 ?h2 ?h3 ?_); (case h1 => assumption); (case h2 => walk_at "pk"); (case h3 => first | rfl | assumption | exact Evl.ixN_nat (by first | omega | (simp only [List.length_cons, List.length_nil]; omega))); intro H2 hh2)
  | ((with_reducible refine' g_kbm ?h1 ?h2 ?_); (case h1 => assumption); (case h2 => walk_at "mem"))
  | ((with_reducible refine' g_kbm0 ?h1 ?h2 ?_); (case h1 => assumption); (case h2 => walk_at "mem"))
  | ((with_reducible refine' g_app ?h1 ?h2 ?h3 ?_); (case h1 => assumption); (case h2 => walk_at "pk"); (case h3 => walk_at "sz"); intro H2 hh2)
  | ((with_reducible refine' g_kapp ?h1 ?h2 ?h3 ?_); (case h1 => assumption); (case h2 => walk_at "pk"); (case h3 => walk_at "sz"); intro H2 hh2)
  | ((with_reducible refine' g_fld ?h1 ?h2 ?h3 ?h4 ?h5 ?_); (case h1 => assumption); (case h2 => walk_at "mem"); (case h3 => assumption); (case h4 => assumption); (case h5 => rfl))
  | ((with_reducible refine' g_sfld ?h1 ?h2 ?h3 ?h4 ?h5 ?_); (case h1 => assumption); (case h2 => walk_at "pk"); (case h3 => assumption); (case h4 => assumption); (case h5 => decide); intro H2 hh2)
  | ((with_reducible refine' g_meth ?h1 ?h2 ?h3 ?_); (case h1 => assumption); (case h2 => walk_at "mem"); (case h3 => rfl))
  | ((with_reducible refine' g_prop ?h1 ?h2 ?_); (case h1 => assumption); (case h2 => walk_at "mem"))
  | ((with_reducible refine' g_make ?h1 ?_); (case h1 => assumption); intro x H2 hh2)
  | ((with_reducible refine' g_cat ?h1 ?h2 ?h3 ?h4 ?_); (case h1 => assumption); (case h2 => walk_at "mem"); (case h3 => walk_at "mem"); (case h4 => walk_at "sz"); intro p H2 hh2)
  | ((with_reducible refine' g_inT ?h1 ?h2 ?h3 ?h4 ?h5 ?_); (case h1 => assumption); (case h2 => walk_at "mem"); (case h3 => rfl); (case h4 => rfl); (case h5 => rfl)))
local macro_rules | `(tactic| walk_at "gs") => `(tactic| repeat first | walk_at "s1" | walk_at "g1")
local macro_rules | `(tactic| walk_at "ite") => `(tactic| first
  | ((with_reducible refine' w_iteT ?h1 ?_); (case h1 => omega))
  | ((with_reducible refine' w_iteF ?h1 ?_); (case h1 => omega))
  | (with_reducible refine w_ite ?_ ?_ <;> intro hq)
  | ((with_reducible refine' w_iteNT ?h1 ?_); (case h1 => omega))
  | ((with_reducible refine' w_iteNF ?h1 ?_); (case h1 => omega))
  | (with_reducible refine w_iteN ?_ ?_ <;> intro hq))
local macro_rules | `(tactic| walk_at "go") => `(tactic| repeat' first | walk_at "s1" | walk_at "g1" | walk_at "ite")
section
variable {P : Program} {w : World} {K : PySem.W.Frag} {mg : Str → Option Value} {base : Heap} {aREG aOPS : Addr}
/-! ### likeness -/
/-- two things of one datum, nested less than n deep, are alike -/
def sp_alike (K : PySem.W.Frag) (n : Nat) : Sp := fun vs H Q _ => ∃ (v1 v2 : V) (d : PyData), vs = [v1, v2] ∧ (match n with
  | 0 => False
  | n + 1 => Dn K [] H n v1 d ∧ Dn K [] H n v2 d) ∧ Q (.bl true) H
theorem alike_step (n : Nat) (T : Txt K mg aREG aOPS) (d : DefAt K mg "_law_alike" s__law_alike) (c__law_alike : C8.Cal P w K mg base n "_law_alike" (sp_alike K n) []) : C8.Cal P w K mg base (n + 1) "_law_alike" (sp_alike K (n + 1)) [] := by
  refine mk d sc__law_alike (fun _ _ _ _ _ _ us hl => match us, hl with | [_, _], _ => rfl) (fun vs H Q E h => ?_) (fun f cdv A outer s H vs Q E hr h => ?_)
  · obtain ⟨v1, v2, d, rfl, _⟩ := h
    rfl
  · obtain ⟨v1, v2, d, rfl, hd, k⟩ := h
    refine ⟨_, (pss_cons (ps_if (PW.pt (pw_or (pt_cmpR op_isN1 (pv 0) pe_non (nomark _)) (pw_or1 (pt_cmpR op_isN1 (pv 1) pe_non (nomark _)))))
    (pss_one (ps_ret (pe_and (pe_cmpR op_isN1 (pv 0) pe_non (nomark _)) (pe_one (pe_cmpR op_isN1 (pv 1) pe_non (nomark _))))))
    pss_nil)
  (pss_cons (ps_if (PW.pt (pw_or (pt_val (pe_callB call_isi (by rfl) T.b_isinstance (by decide +kernel) (pa_cons (pv 0) (pa_cons (pe_bltn (v := .ty "bool") (by rfl) T.b_bool (by decide +kernel) rfl) pa_nil)))) (pw_or1 (pt_val (pe_callB call_isi (by rfl) T.b_isinstance (by decide +kernel) (pa_cons (pv 1) (pa_cons (pe_bltn (v := .ty "bool") (by rfl) T.b_bool (by decide +kernel) rfl) pa_nil)))))))
    (pss_one (ps_ret (pe_and (pe_callB call_isi (by rfl) T.b_isinstance (by decide +kernel) (pa_cons (pv 0) (pa_cons (pe_bltn (v := .ty "bool") (by rfl) T.b_bool (by decide +kernel) rfl) pa_nil))) (pe_and (pe_callB call_isi (by rfl) T.b_isinstance (by decide +kernel) (pa_cons (pv 1) (pa_cons (pe_bltn (v := .ty "bool") (by rfl) T.b_bool (by decide +kernel) rfl) pa_nil))) (pe_one (pe_cmpR op_eq (pv 0) (pv 1) (nomark _)))))))
    pss_nil)
  (pss_cons (ps_if (pt_val (pe_callB call_isi (by rfl) T.b_isinstance (by decide +kernel) (pa_cons (pv 0) (pa_cons (pe_bltn (v := .ty "int") (by rfl) T.b_int (by decide +kernel) rfl) pa_nil))))
    (pss_one (ps_ret (pe_and (pe_callB call_isi (by rfl) T.b_isinstance (by decide +kernel) (pa_cons (pv 1) (pa_cons (pe_bltn (v := .ty "int") (by rfl) T.b_int (by decide +kernel) rfl) pa_nil))) (pe_one (pe_cmpR op_eq (pv 0) (pv 1) (nomark _))))))
    pss_nil)
  (pss_cons (ps_if (pt_val (pe_callB call_isi (by rfl) T.b_isinstance (by decide +kernel) (pa_cons (pv 0) (pa_cons (pe_bltn (v := .ty "str") (by rfl) T.b_str (by decide +kernel) rfl) pa_nil))))
    (pss_one (ps_ret (pe_and (pe_callB call_isi (by rfl) T.b_isinstance (by decide +kernel) (pa_cons (pv 1) (pa_cons (pe_bltn (v := .ty "str") (by rfl) T.b_str (by decide +kernel) rfl) pa_nil))) (pe_one (pe_cmpR op_eq (pv 0) (pv 1) (nomark _))))))
    pss_nil)
  (pss_cons (ps_if (pt_val (pe_callB call_isi (by rfl) T.b_isinstance (by decide +kernel) (pa_cons (pv 0) (pa_cons (pe_bltn (v := .ty "list") (by rfl) T.b_list (by decide +kernel) rfl) pa_nil))))
    (pss_one (ps_if (pt_not (pt_val (pe_callB call_isi (by rfl) T.b_isinstance (by decide +kernel) (pa_cons (pv 1) (pa_cons (pe_bltn (v := .ty "list") (by rfl) T.b_list (by decide +kernel) rfl) pa_nil)))))
        (pss_one (ps_ret pe_bl))
        pss_nil))
    (pss_one (ps_if (PW.pt (pw_or (pt_not (pt_val (pe_callB call_isi (by rfl) T.b_isinstance (by decide +kernel) (pa_cons (pv 0) (pa_cons (pe_bltn (v := .ty "tuple") (by rfl) T.b_tuple (by decide +kernel) rfl) pa_nil))))) (pw_or1 (pt_not (pt_val (pe_callB call_isi (by rfl) T.b_isinstance (by decide +kernel) (pa_cons (pv 1) (pa_cons (pe_bltn (v := .ty "tuple") (by rfl) T.b_tuple (by decide +kernel) rfl) pa_nil))))))))
        (pss_one (ps_ret pe_bl))
        pss_nil)))
  (pss_cons (ps_if (pt_cmpR op_ne (pe_callB Wk.b_len (by rfl) T.b_len (by decide +kernel) (pa_cons (pv 0) pa_nil)) (pe_callB Wk.b_len (by rfl) T.b_len (by decide +kernel) (pa_cons (pv 1) pa_nil)) (nomark _))
    (pss_one (ps_ret pe_bl))
    pss_nil)
  (pss_cons (ps_for PassesOwn.never rfl (pi_range1 rfl T.b_range (pa_cons (pe_callB Wk.b_len (by rfl) T.b_len (by decide +kernel) (pa_cons (pv 0) pa_nil)) pa_nil)) (pg_name (i := 2) sc__law_alike.nd rfl (Or.inl rfl))
    (pss_one (ps_if (pt_not (pt_val (C8.pe_c c__law_alike hr (by first | decide | omega) rfl (pa_cons (pe_ix ix_seq (pv 0) (pv 2) (fun _ _ => rfl)) (pa_cons (pe_ix ix_seq (pv 1) (pv 2) (fun _ _ => rfl)) pa_nil)))))
        (pss_one (ps_ret pe_bl))
        pss_nil)))
  (pss_one (ps_ret pe_bl))))))))), ?_⟩
    have scal : ∀ {v1 v2 d}, Sc v1 d → Sc v2 d → v1 = v2 := fun h1 h2 => by cases h1 <;> cases h2 <;> rfl
    have hd' : Sc v1 d ∧ Sc v2 d ∨ ∃ m a1 a2 xs ys ds, n = m + 1 ∧ v1 = .ref a1 ∧ v2 = .ref a2 ∧ xs.length ≤ 100000 ∧ Paired (Dn K [] H m) xs ds ∧ Paired (Dn K [] H m) ys ds ∧ ((SqL K H a1 xs ∧ SqL K H a2 ys) ∨ (SqT K H a1 xs ∧ SqT K H a2 ys)) := by
      obtain ⟨h1, h2⟩ := hd
      cases n with
      | zero => exact .inl ⟨h1, h2⟩
      | succ m =>
        rcases h1 with h1 | ⟨a, xs, ds, e1, e2, _, hq, hl, p⟩ | ⟨a, xs, ds, e1, e2, _, hq, hl, p⟩
        · rcases h2 with h2 | ⟨a', xs', ds', e1', e2', _, hq', hl', p'⟩ | ⟨a', xs', ds', e1', e2', _, hq', hl', p'⟩
          · exact .inl ⟨h1, h2⟩
          · subst e2'; cases h1
          · subst e2'; cases h1
        · subst e2
          rcases h2 with h2 | ⟨a', xs', ds', e1', e2', _, hq', hl', p'⟩ | ⟨a', xs', ds', e1', e2', _, hq', hl', p'⟩
          · cases h2
          · cases e2'
            exact .inr ⟨m, a, a', xs, xs', ds, rfl, e1, e1', hl, p, p', .inl ⟨hq, hq'⟩⟩
          · cases e2'
        · subst e2
          rcases h2 with h2 | ⟨a', xs', ds', e1', e2', _, hq', hl', p'⟩ | ⟨a', xs', ds', e1', e2', _, hq', hl', p'⟩
          · cases h2
          · cases e2'
          · cases e2'
            exact .inr ⟨m, a, a', xs, xs', ds, rfl, e1, e1', hl, p, p', .inr ⟨hq, hq'⟩⟩
    clear hd
    rcases hd' with ⟨h1, h2⟩ | ⟨m, a1, a2, xs, ys, ds, rfl, rfl, rfl, hl, p1, p2, hq⟩
    · obtain rfl := scal h1 h2
      clear h2 scal
      cases h1 <;> walk_at "s" <;> first | exact k | (simp only [decide_true]; exact k)
    · have e1 := p1.length
      have el : ys.length = xs.length := by rw [p1.length, p2.length]
      have hx : SqL K H a1 xs ∨ SqT K H a1 xs := hq.elim (fun z => .inl z.1) fun z => .inr z.1
      have hy : SqL K H a2 ys ∨ SqT K H a2 ys := hq.elim (fun z => .inl z.2) fun z => .inr z.2
      have rest : ∀ (lp : TS) (D : Ends), True := fun _ _ => trivial
      rcases hq with ⟨q1, q2⟩ | ⟨q1, q2⟩
      all_goals
        walk_at "s"
        refine c_lenA hx ?_
        walk_at "s"
        refine c_lenA hy ?_
        rw [el]
        walk_at "s"
        refine c_lenA hx ?_
        walk_at "s"
        refine l_range rfl (by omega) (fun i σ H2 => H2 = H ∧ ∃ v, σ = [some (.ref a1), some (.ref a2), v]) ⟨rfl, none, rfl⟩ ?_ ?_
        · rintro i σ H2 hi ⟨rfl, v, rfl⟩
          obtain ⟨d0, hd0, z1⟩ := paired_at p1 (List.getElem?_eq_getElem hi)
          obtain ⟨d1, hd1, z2⟩ := paired_at p2 (List.getElem?_eq_getElem (by omega : i < ys.length))
          rw [hd0] at hd1
          cases hd1
          walk_at "s"
          refine w_ixAny hx (atI_nat (List.getElem?_eq_getElem hi)) ?_
          walk_at "s"
          refine w_ixAny hy (atI_nat (List.getElem?_eq_getElem (by omega : i < ys.length))) ?_
          walk_at "s"
          refine ⟨_, _, d0, rfl, ⟨z1, z2⟩, ?_⟩
          walk_at "s"
          exact ⟨rfl, _, rfl⟩
        · rintro σ H2 ⟨rfl, v, rfl⟩
          walk_at "s"
          exact k
theorem cal_false {x : Str} {st : Stmt} {k : Nat} {sp : Sp} {ps : List Str} (d : DefAt K mg x st)
    (hb : ∀ (kV doc pm : Value) (an : Option Addr) (cdv ct : Value) (us : List Value), us.length = ps.length → bindArgs (PySem.W.fnOf x x (defArgs st) (defBody st) (defScope st) .none kV doc pm an cdv ct) ⟨us, []⟩ = pure (ps.zip us))
    (h : ∀ vs H Q E, sp vs H Q E → False) : C8.Cal P w K mg base k x sp [] := by
  obtain ⟨f, fd, F, hm⟩ := d
  exact ⟨f, fd, ps, [], ⟨fun vs H Q E z => (h _ _ _ _ z).elim, fun A outer s H args us vs Q E _ _ _ _ z => (h _ _ _ _ z).elim⟩, hm, F.kp, F.bindsN hb, .nil⟩
theorem c_alike (T : Txt K mg aREG aOPS) (d : DefAt K mg "_law_alike" s__law_alike) : ∀ n : Nat, C8.Cal P w K mg base n "_law_alike" (sp_alike K n) []
  | 0 => cal_false (ps := ["one", "two"]) d (fun _ _ _ _ _ _ us hl => match us, hl with | [_, _], _ => rfl) fun vs H Q E ⟨_, _, _, _, z, _⟩ => z
  | n + 1 => alike_step n T d (c_alike T d n)
theorem u_alike {n : Nat} {v1 v2 : V} {d : PyData} {H : Hp} {Q : VK} {E : XK} (h1 : Dn K [] H n v1 d) (h2 : Dn K [] H n v2 d) (q : Q (.bl true) H) : sp_alike K (n + 1) [v1, v2] H Q E := ⟨v1, v2, d, rfl, ⟨h1, h2⟩, q⟩
end
end K23
set_option Elab.async false
set_option linter.all false
set_option maxRecDepth 100000
set_option maxHeartbeats 4000000
namespace K23
open PySem PySem.Spec PyProof.Rows L2 Wk
local macro_rules | `(tactic| walk_at "u1") => `(tactic| fail "no more")
local macro_rules | `(tactic| walk_at "pos") => `(tactic| first | assumption | omega | decide | (simp only [Int.ofNat_eq_natCast] at *; omega))
local macro_rules | `(tactic| walk_at "sz") => `(tactic| first
  | (simp only [List.length_cons, List.length_nil]; decide)
  | exact Evl.sz_of (by omega)
  | exact Evl.sz_lt (by omega)
  | exact Evl.sz_of (by simp only [List.length_map, List.length_append, List.length_cons, List.length_nil, List.length_replicate]; omega)
  | exact Evl.sz_lt (by simp only [List.length_map, List.length_append, List.length_cons, List.length_nil, List.length_replicate]; omega))
local macro_rules | `(tactic| walk_at "cond") => `(tactic| first
  | exact Or.inr ⟨by decide, by decide⟩
  | (show (0 : Int) < _; first | decide | assumption | omega)
  | exact Or.inl ⟨by omega, by omega⟩
  | exact Or.inr ⟨by omega, by omega⟩
  | exact ⟨by decide, by decide, by decide⟩
  | exact log2_lt (by omega) (by omega)
  | exact ⟨by omega, by omega⟩)
local macro_rules | `(tactic| walk_at "ty") => `(tactic| first
  | exact ty_int | exact ty_bl | exact ty_str | exact ty_non
  | exact ty_L (by assumption) | exact ty_T (by assumption)
  | exact ty_L (SqL.of (by assumption)) | exact ty_T (SqT.of (by assumption)))
local macro_rules | `(tactic| walk_at "kit") => `(tactic| first
  | exact k_ii | exact k_ib | exact k_is | exact k_il | exact k_it
  | exact k_bb | exact k_bi | exact k_bs | exact k_bl | exact k_bt
  | exact k_ss | exact k_sb | exact k_si | exact k_sl | exact k_st
  | exact k_ll | exact k_lb | exact k_li | exact k_ls | exact k_lt
  | exact k_tt | exact k_tb | exact k_ti | exact k_ts | exact k_tl
  | exact k_nn | exact k_ni | exact k_ns | exact k_nl | exact k_nt)
local macro_rules | `(tactic| walk_at "s1") => `(tactic| first
  | with_reducible refine w_seq ?_
  | with_reducible refine w_set ?_
  | with_reducible refine w_op ?_
  | ((with_reducible refine' w_var ?h1 ?_); (case h1 => rfl))
  | with_reducible refine w_c ?_
  | with_reducible refine w_cb ?_
  | with_reducible refine w_cons ?_
  | with_reducible refine w_nil ?_
  | with_reducible refine w_I0 ?_
  | ((with_reducible refine' w_I ?c1 ?_); case c1 => walk_at "cond")
  | with_reducible refine w_ret ?_
  | with_reducible refine w_next ?_
  | with_reducible refine w_ifS ?_
  | with_reducible refine w_test ?_
  | with_reducible refine w_tB ?_
  | with_reducible refine w_k ?_
  | with_reducible refine w_eqI ?_
  | with_reducible refine w_neI ?_
  | with_reducible refine w_eqS ?_
  | with_reducible refine w_neS ?_
  | with_reducible refine w_and ?_
  | with_reducible refine w_or ?_
  | with_reducible refine w_not ?_
  | with_reducible refine w_andV ?_
  | with_reducible refine w_orV ?_
  | with_reducible refine w_notV ?_
  | with_reducible refine w_ifE ?_
  | with_reducible refine w_true ?_
  | with_reducible refine w_false ?_
  | with_reducible refine w_ntrue ?_
  | with_reducible refine w_nfalse ?_
  | with_reducible refine w_call ?_
  | with_reducible refine c_int ?_
  | with_reducible refine c_abs ?_
  | with_reducible refine c_max ?_
  | with_reducible refine c_min ?_
  | with_reducible refine w_drop ?_
  | with_reducible refine w_sfld ?_
  | with_reducible refine w_meth ?_
  | with_reducible refine w_make ?_
  | with_reducible refine w_prop ?_
  | with_reducible refine w_callK ?_
  | with_reducible refine w_callN ?_
  | with_reducible refine w_star ?_
  | with_reducible refine w_gcons ?_
  | with_reducible refine w_gname ?_
  | with_reducible refine w_gnil ?_
  | with_reducible refine w_retN ?_
  | with_reducible refine w_tup ?_
  | with_reducible refine w_lst ?_
  | with_reducible refine w_fld ?_
  | with_reducible refine w_bm ?_
  | with_reducible refine w_bm0 ?_
  | with_reducible refine w_forL ?_
  | with_reducible refine w_forT ?_
  | with_reducible refine w_forS ?_
  | with_reducible refine w_forR ?_
  | with_reducible refine w_lcR ?_
  | with_reducible refine w_lcL ?_
  | with_reducible refine w_lcT ?_
  | with_reducible refine w_isN ?_
  | with_reducible refine w_notN ?_
  | with_reducible refine w_asg ?_
  | with_reducible refine w_gsub ?_
  | ((with_reducible refine' w_aug ?h1 ?_); (case h1 => rfl))
  | with_reducible refine w_augS ?_
  | with_reducible refine w_ipI ?_
  | with_reducible refine w_un ?_
  | with_reducible refine w_U ?_
  | ((with_reducible refine' w_iteF ?f1 ?_); case f1 => (first | (intro h; cases h; done) | decide))
  | ((with_reducible refine' w_iteT ?f1 ?_); case f1 => rfl)
  | ((with_reducible refine' w_iteNF ?f1 ?_); case f1 => rfl)
  | ((with_reducible refine' w_iteNT ?f1 ?_); case f1 => (first | (intro h; cases h; done) | decide))
  | ((with_reducible refine' c_isi ?t1 ?k1 ?_); (case t1 => walk_at "ty"); (case k1 => walk_at "kit"))
  | ((with_reducible refine' w_eq ?e1 ?_); case e1 => rfl)
  | ((with_reducible refine' w_ne ?e1 ?_); case e1 => rfl)
  | walk_at "u1")
local macro_rules | `(tactic| walk_at "s") => `(tactic| repeat walk_at "s1")
local macro_rules | `(tactic| walk_at "mem") => `(tactic| first | with_reducible exact List.mem_cons_self .. | ((with_reducible refine' List.mem_cons_of_mem _ ?q); (case q => walk_at "mem")) | assumption | ((with_reducible refine' List.mem_append_right _ ?q); (case q => walk_at "mem")) | (exact List.mem_append_left _ (by assumption)))
local macro_rules | `(tactic| walk_at "pk") => `(tactic| first | with_reducible exact Pk.here | ((with_reducible refine' Pk.there ?q); (case q => walk_at "pk")) | ((with_reducible refine' Pk.app ?q); (case q => walk_at "pk")))
local macro_rules | `(tactic| walk_at "pkb") => `(tactic| first | with_reducible exact PkB.here | ((with_reducible refine' PkB.there ?q); (case q => walk_at "pkb")) | ((with_reducible refine' PkB.app ?q); (case q => walk_at "pkb")))
local macro_rules | `(tactic| walk_at "spl") => `(tactic| first | with_reducible exact Spl.nil | ((with_reducible refine' Spl.cons ?h ?t); (case h => walk_at "pk"); (case t => walk_at "spl")) | ((with_reducible refine' Spl.blk ?h ?t); (case h => walk_at "pkb"); (case t => walk_at "spl")))
local macro_rules | `(tactic| walk_at "sbx") => `(tactic| first | with_reducible exact Sb.refl | with_reducible exact Sb.nil | with_reducible exact Sb.left | ((with_reducible refine' Sb.cons ?h ?t); (case h => walk_at "pk"); (case t => walk_at "sbx")) | ((with_reducible refine' Sb.blk ?h ?t); (case h => walk_at "pkb"); (case t => walk_at "sbx")) | ((with_reducible refine' Sb.drop ?q); (case q => walk_at "sbx")) | ((with_reducible refine' Sb.right ?q); (case q => walk_at "sbx")))
local macro_rules | `(tactic| walk_at "hd") => `(tactic| first | assumption | exact Hd.sb (by assumption) (by walk_at "sbx"))
local macro_rules | `(tactic| walk_at "sq") => `(tactic| first
  | assumption
  | exact Hd.sqL (by assumption) (by walk_at "mem")
  | exact Hd.sqT (by assumption) (by walk_at "mem")
  | exact Hd.sqF (by assumption) (by walk_at "mem")
  | (refine .inl ?_; walk_at "sq")
  | (refine .inr ?_; walk_at "sq"))
local macro_rules | `(tactic| walk_at "at") => `(tactic| first | rfl | assumption | exact atI_nat (by assumption))
local macro_rules | `(tactic| walk_at "dn1") => `(tactic| first
  | exact Dn.int | exact Dn.str | exact Dn.non | exact Dn.bl | assumption
  | ((refine' Dn.tp ?a1 ?m1 ?l1 ?p1); (case a1 => assumption); (case m1 => walk_at "mem"); (case l1 => (simp only [List.length_cons, List.length_nil]; omega)); (case p1 => walk_at "dns"))
  | ((refine' Dn.lt ?a1 ?m1 ?l1 ?p1); (case a1 => assumption); (case m1 => walk_at "mem"); (case l1 => (simp only [List.length_cons, List.length_nil]; omega)); (case p1 => walk_at "dns")))
local macro_rules | `(tactic| walk_at "dns") => `(tactic| first | exact Paired.nil | exact Dn.ints | ((refine' Paired.cons ?a1 ?b1); (case a1 => walk_at "dn1"); (case b1 => walk_at "dns")))
local macro_rules | `(tactic| walk_at "g1") => `(tactic| first
  | ((with_reducible refine' g_ixI ?h1 ?h2 ?h3 ?_); (case h1 => assumption); (case h2 => walk_at "mem"); (case h3 => omega); intro z hz)
  | ((with_reducible refine' g_ixIT ?h1 ?h2 ?h3 ?_); (case h1 => assumption); (case h2 => walk_at "mem"); (case h3 => omega); intro z hz)
  | ((with_reducible refine' g_setI ?h1 ?h2 ?h3 ?_); (case h1 => assumption); (case h2 => walk_at "pk"); (case h3 => omega); intro H2 hh2)
  | ((with_reducible refine' w_ixL ?h1 ?h2 ?_); (case h1 => walk_at "sq"); (case h2 => walk_at "at"))
  | ((with_reducible refine' w_ixT ?h1 ?h2 ?_); (case h1 => walk_at "sq"); (case h2 => walk_at "at"))
  | ((with_reducible refine' w_ixAny ?h1 ?h2 ?_); (case h1 => walk_at "sq"); (case h2 => walk_at "at"))
  | ((with_reducible refine' c_lenA ?h1 ?_); (case h1 => walk_at "sq"))
  | ((with_reducible refine' c_isi ?t1 ?k1 ?_); (case t1 => first | exact ty_T (by walk_at "sq") | exact ty_L (by walk_at "sq")); (case k1 => walk_at "kit"))
  | ((with_reducible refine' g_lst ?h1 ?h2 ?_); (case h1 => assumption); (case h2 => walk_at "sz"); intro p H2 hh2)
  | ((with_reducible refine' g_tup ?h1 ?h2 ?_); (case h1 => assumption); (case h2 => walk_at "sz"); intro p H2 hh2)
  | ((with_reducible refine' g_dict ?h1 ?_); (case h1 => assumption); intro p H2 hh2)
  | ((with_reducible refine' g_listL ?h1 ?h2 ?_); (case h1 => assumption); (case h2 => walk_at "sq"); intro p H2 hh2)
  | ((with_reducible refine' g_listT ?h1 ?h2 ?_); (case h1 => assumption); (case h2 => walk_at "sq"); intro p H2 hh2)
  | ((with_reducible refine' g_tupL ?h1 ?h2 ?_); (case h1 => assumption); (case h2 => walk_at "sq"); intro p H2 hh2)
  | ((with_reducible refine' g_set ?h1 ?h2 ?h3 ?_); (case h1 => assumption); (case h2 => walk_at "pk"); (case h3 => first | rfl | assumption | exact Evl.ixN_nat (by first | omega | (simp only [List.length_cons, List.length_nil]; omega))); intro H2 hh2)
  | ((with_reducible refine' g_kbm ?h1 ?h2 ?_); (case h1 => assumption); (case h2 => walk_at "mem"))
  | ((with_reducible refine' g_kbm0 ?h1 ?h2 ?_); (case h1 => assumption); (case h2 => walk_at "mem"))
  | ((with_reducible refine' g_app ?h1 ?h2 ?h3 ?_); (case h1 => assumption); (case h2 => walk_at "pk"); (case h3 => walk_at "sz"); intro H2 hh2)
  | ((with_reducible refine' g_kapp ?h1 ?h2 ?h3 ?_); (case h1 => assumption); (case h2 => walk_at "pk"); (case h3 => walk_at "sz"); intro H2 hh2)
  | ((with_reducible refine' g_fld ?h1 ?h2 ?h3 ?h4 ?h5 ?_); (case h1 => assumption); (case h2 => walk_at "mem"); (case h3 => assumption); (case h4 => assumption); (case h5 => rfl))
  | ((with_reducible refine' g_sfld ?h1 ?h2 ?h3 ?h4 ?h5 ?_); (case h1 => assumption); (case h2 => walk_at "pk"); (case h3 => assumption); (case h4 => assumption); (case h5 => decide); intro H2 hh2)
  | ((with_reducible refine' g_meth ?h1 ?h2 ?h3 ?_); (case h1 => assumption); (case h2 => walk_at "mem"); (case h3 => rfl))
  | ((with_reducible refine' g_prop ?h1 ?h2 ?_); (case h1 => assumption); (case h2 => walk_at "mem"))
  | ((with_reducible refine' g_make ?h1 ?_); (case h1 => assumption); intro x H2 hh2)
  | ((with_reducible refine' g_cat ?h1 ?h2 ?h3 ?h4 ?_); (case h1 => assumption); (case h2 => walk_at "mem"); (case h3 => walk_at "mem"); (case h4 => walk_at "sz"); intro p H2 hh2)
  | ((with_reducible refine' g_inT ?h1 ?h2 ?h3 ?h4 ?h5 ?_); (case h1 => assumption); (case h2 => walk_at "mem"); (case h3 => rfl); (case h4 => rfl); (case h5 => rfl)))
local macro_rules | `(tactic| walk_at "gs") => `(tactic| repeat first | walk_at "s1" | walk_at "g1")
local macro_rules | `(tactic| walk_at "ite") => `(tactic| first
  | ((with_reducible refine' w_iteT ?h1 ?_); (case h1 => omega))
  | ((with_reducible refine' w_iteF ?h1 ?_); (case h1 => omega))
  | (with_reducible refine w_ite ?_ ?_ <;> intro hq)
  | ((with_reducible refine' w_iteNT ?h1 ?_); (case h1 => omega))
  | ((with_reducible refine' w_iteNF ?h1 ?_); (case h1 => omega))
  | (with_reducible refine w_iteN ?_ ?_ <;> intro hq))
local macro_rules | `(tactic| walk_at "go") => `(tactic| repeat' first | walk_at "s1" | walk_at "g1" | walk_at "ite")
section
variable {P : Program} {w : World} {K : PySem.W.Frag} {mg : Str → Option Value} {base : Heap} {aREG aOPS : Addr}
/-! ### copies -/
def Trk (S : List Addr) (H : Hp) : Prop := ∀ a ∈ S, ∃ o, H a = some o
theorem Trk.upt {S : List Addr} {H H' : Hp} (t : Trk S H) (u : Upt [] H H') : Trk S H' := fun a h => by
  obtain ⟨o, e⟩ := t a h
  exact ⟨o, u.at0 e⟩
/-- a datum nested less than n deep is copied: the copy's lists and tuples are new -/
def sp_copy (K : PySem.W.Frag) (n : Nat) : Sp := fun vs H Q _ => ∃ (v : V) (d : PyData), vs = [v] ∧ (match n with
  | 0 => False
  | n + 1 => Dn K [] H n v d ∧ ∀ v' H', Upt [] H H' → (∀ S, Trk S H → Dn K S H' n v' d) → Q v' H')
theorem take_succ' {α : Type} {xs : List α} {i : Nat} {x : α} (h : xs[i]? = some x) : xs.take (i + 1) = xs.take i ++ [x] := by
  rw [List.take_succ, h]; rfl
theorem Paired.snoc {α β : Type} {F : α → β → Prop} : ∀ {xs : List α} {ys : List β} {x : α} {y : β}, Paired F xs ys → F x y → Paired F (xs ++ [x]) (ys ++ [y])
  | _, _, _, _, .nil, h => .cons h .nil
  | _, _, _, _, .cons r t, h => .cons r (Paired.snoc t h)
theorem copy_step (n : Nat) (T : Txt K mg aREG aOPS) (d : DefAt K mg "_law_copy" s__law_copy) (c__law_copy : C8.Cal P w K mg base n "_law_copy" (sp_copy K n) []) : C8.Cal P w K mg base (n + 1) "_law_copy" (sp_copy K (n + 1)) [] := by
  refine mk d sc__law_copy (fun _ _ _ _ _ _ us hl => match us, hl with | [_], _ => rfl) (fun vs H Q E h => ?_) (fun f cdv A outer s H vs Q E hr h => ?_)
  · obtain ⟨v1, d, rfl, _⟩ := h
    rfl
  · obtain ⟨v, d, rfl, hd, k⟩ := h
    refine ⟨_, (pss_cons (ps_if (pt_val (pe_callB call_isi (by rfl) T.b_isinstance (by decide +kernel) (pa_cons (pv 0) (pa_cons (pe_bltn (v := .ty "list") (by rfl) T.b_list (by decide +kernel) rfl) pa_nil))))
    (pss_one (ps_ret (pe_lc (own := [("x", 1)]) rfl sc__law_copy.nd (pi_list (pv 0)) (blkOk_by (own := [("x", 1)]) (N := nm__law_copy) (sc := defScope s__law_copy) (by decide +kernel)) (fun _ _ _ _ _ => (pg_name (i := 1) sc__law_copy.nd rfl (Or.inl rfl))) (fun _ _ _ _ _ => pts_nil) (fun _ _ _ _ _ => (C8.pe_c c__law_copy hr (by first | decide | omega) rfl (pa_cons (pv 1) pa_nil))))))
    pss_nil)
  (pss_cons (ps_if (pt_val (pe_callB call_isi (by rfl) T.b_isinstance (by decide +kernel) (pa_cons (pv 0) (pa_cons (pe_bltn (v := .ty "tuple") (by rfl) T.b_tuple (by decide +kernel) rfl) pa_nil))))
    (pss_one (ps_ret (pe_callTy Wk.b_tuple (by rfl) T.b_tuple (by decide +kernel) (pa_cons (pe_lc (own := [("x", 1)]) rfl sc__law_copy.nd (pi_tup (pv 0)) (blkOk_by (own := [("x", 1)]) (N := nm__law_copy) (sc := defScope s__law_copy) (by decide +kernel)) (fun _ _ _ _ _ => (pg_name (i := 1) sc__law_copy.nd rfl (Or.inl rfl))) (fun _ _ _ _ _ => pts_nil) (fun _ _ _ _ _ => (C8.pe_c c__law_copy hr (by first | decide | omega) rfl (pa_cons (pv 1) pa_nil)))) pa_nil))))
    pss_nil)
  (pss_one (ps_ret (pv 0))))), ?_⟩
    have hd' : Sc v d ∨ ∃ m a xs ds, n = m + 1 ∧ v = .ref a ∧ xs.length ≤ 100000 ∧ Paired (Dn K [] H m) xs ds ∧ ((SqL K H a xs ∧ d = .list ds) ∨ (SqT K H a xs ∧ d = .tuple ds)) := by
      cases n with
      | zero => exact .inl hd
      | succ m =>
        rcases hd with h1 | ⟨a, xs, ds, e1, e2, _, hq, hl, p⟩ | ⟨a, xs, ds, e1, e2, _, hq, hl, p⟩
        · exact .inl h1
        · exact .inr ⟨m, a, xs, ds, rfl, e1, hl, p, .inl ⟨hq, e2⟩⟩
        · exact .inr ⟨m, a, xs, ds, rfl, e1, hl, p, .inr ⟨hq, e2⟩⟩
    clear hd
    rcases hd' with h1 | ⟨m, a, xs, ds, rfl, rfl, hl, p, hq⟩
    · have k' := k v H (Upt.refl H) fun S _ => Dn.sc h1
      cases h1 <;> walk_at "s" <;> exact k'
    · -- what holds behind i items
      have el := p.length
      have turn : ∀ (i : Nat) (x : V) (D : Addr) (H2 : Hp), xs[i]? = some x → (H D = none ∧ Upt [] H H2 ∧ ∃ acc, H2 D = some (.lst acc) ∧ acc.length = i ∧ ∀ S, Trk S H → Paired (Dn K (D :: S) H2 m) acc (ds.take i)) →
          ∃ d0, ds[i]? = some d0 ∧ Dn K [] H2 m x d0 ∧ ∀ v' H4, Upt [] H2 H4 → (∀ S, Trk S H2 → Dn K S H4 m v' d0) → KApp D (fun H2 => H D = none ∧ Upt [] H H2 ∧ ∃ acc, H2 D = some (.lst acc) ∧ acc.length = i + 1 ∧ ∀ S, Trk S H → Paired (Dn K (D :: S) H2 m) acc (ds.take (i + 1))) v' H4 := by
        rintro i x D H2 hi ⟨hD, u, acc, hacc, hn, hp⟩
        obtain ⟨d0, hd0, z⟩ := paired_at p hi
        have hil := (List.getElem?_eq_some_iff.mp hi).1
        refine ⟨d0, hd0, Dn.upt u (by simp) z, fun v' H4 u4 h4 => ?_⟩
        refine w_kapp (u4.at0 hacc) (Evl.sz_lt (by omega)) fun H5 g5 => ⟨hD, fun b o _ ho => ?_, acc ++ [v'], g5.at_, by simp [hn], fun S hS => ?_⟩
        · exact g5.keep.at1 (fun z => by subst z; rw [hD] at ho; cases ho) (u4.at0 (u.at0 ho))
        · rw [take_succ' hd0]
          have u5 : Upt [D] H4 H5 := g5.keep
          refine Paired.snoc (Paired.mapP (hp S hS) fun x y q => Dn.upt u5 (by simp) (Dn.upt u4 (by simp) q)) ?_
          refine Dn.upt u5 (by simp) (h4 (D :: S) fun b hb => ?_)
          rcases List.mem_cons.mp hb with z | z
          · subst z; exact ⟨_, hacc⟩
          · exact hS.upt u b z
      rcases hq with ⟨hx, rfl⟩ | ⟨hx, rfl⟩
      · walk_at "s"
        refine lc_L hx (fun i D H2 => H D = none ∧ Upt [] H H2 ∧ ∃ acc, H2 D = some (.lst acc) ∧ acc.length = i ∧ ∀ S, Trk S H → Paired (Dn K (D :: S) H2 m) acc (ds.take i)) (fun D H1 n1 => ⟨n1.no, n1.keep, [], n1.at_, rfl, fun _ _ => .nil⟩) (fun i D H2 _ ⟨_, u, _⟩ => hx.upt u) (fun i x D H2 hi hp => ?_) (fun D H2 hp => ?_)
        · obtain ⟨d0, hd0, z, kk⟩ := turn i x D H2 hi hp
          walk_at "s"
          exact ⟨x, d0, rfl, z, kk⟩
        · obtain ⟨hD, u, acc, hacc, hn, hpp⟩ := hp
          refine k (.ref D) H2 u fun S hS => ?_
          have q := hpp S hS
          rw [el, List.take_length] at q
          exact Dn.lst (SqL.of hacc) (fun z => by obtain ⟨o, e⟩ := hS D z; rw [hD] at e; cases e) (by omega) (Paired.mapP q fun x y q => Dn.weak (fun b hb => List.mem_cons_of_mem _ hb) q)
      · walk_at "s"
        refine lc_T hx (fun i D H2 => H D = none ∧ Upt [] H H2 ∧ ∃ acc, H2 D = some (.lst acc) ∧ acc.length = i ∧ ∀ S, Trk S H → Paired (Dn K (D :: S) H2 m) acc (ds.take i)) (fun D H1 n1 => ⟨n1.no, n1.keep, [], n1.at_, rfl, fun _ _ => .nil⟩) (fun i D H2 _ ⟨_, u, _⟩ => hx.upt u) (fun i x D H2 hi hp => ?_) (fun D H2 hp => ?_)
        · obtain ⟨d0, hd0, z, kk⟩ := turn i x D H2 hi hp
          walk_at "s"
          exact ⟨x, d0, rfl, z, kk⟩
        · obtain ⟨hD, u, acc, hacc, hn, hpp⟩ := hp
          walk_at "s"
          refine c_tupL (SqL.of hacc) fun t H3 n3 => ?_
          refine k (.ref t) H3 (u.trans n3.keep) fun S hS => ?_
          have q := hpp S hS
          rw [el, List.take_length] at q
          exact Dn.tup (SqT.of n3.at_) (fun z => by obtain ⟨o, e⟩ := hS.upt u t z; rw [n3.no] at e; cases e) (by omega) (Paired.mapP q fun x y q => Dn.upt n3.keep (by simp) (Dn.weak (fun b hb => List.mem_cons_of_mem _ hb) q))
theorem c_copy (T : Txt K mg aREG aOPS) (d : DefAt K mg "_law_copy" s__law_copy) : ∀ n : Nat, C8.Cal P w K mg base n "_law_copy" (sp_copy K n) []
  | 0 => cal_false (ps := ["value"]) d (fun _ _ _ _ _ _ us hl => match us, hl with | [_], _ => rfl) fun vs H Q E ⟨_, _, _, z⟩ => z
  | n + 1 => copy_step n T d (c_copy T d n)
theorem u_copy {n : Nat} {v : V} {d : PyData} {H : Hp} {Q : VK} {E : XK} (h1 : Dn K [] H n v d) (q : ∀ v' H', Upt [] H H' → (∀ S, Trk S H → Dn K S H' n v' d) → Q v' H') : sp_copy K (n + 1) [v] H Q E := ⟨v, d, rfl, h1, q⟩
end
end K23
set_option Elab.async false
set_option linter.all false
set_option maxRecDepth 100000
set_option maxHeartbeats 4000000
namespace K23
open PySem PySem.Spec PyProof.Rows L2 Wk
local macro_rules | `(tactic| walk_at "u1") => `(tactic| fail "no more")
local macro_rules | `(tactic| walk_at "pos") => `(tactic| first | assumption | omega | decide | (simp only [Int.ofNat_eq_natCast] at *; omega))
local macro_rules | `(tactic| walk_at "sz") => `(tactic| first
  | (simp only [List.length_cons, List.length_nil]; decide)
  | exact Evl.sz_of (by omega)
  | exact Evl.sz_lt (by omega)
  | exact Evl.sz_of (by simp only [List.length_map, List.length_append, List.length_cons, List.length_nil, List.length_replicate]; omega)
  | exact Evl.sz_lt (by simp only [List.length_map, List.length_append, List.length_cons, List.length_nil, List.length_replicate]; omega))
local macro_rules | `(tactic| walk_at "cond") => `(tactic| first
  | exact Or.inr ⟨by decide, by decide⟩
  | (show (0 : Int) < _; first | decide | assumption | omega)
  | exact Or.inl ⟨by omega, by omega⟩
  | exact Or.inr ⟨by omega, by omega⟩
  | exact ⟨by decide, by decide, by decide⟩
  | exact log2_lt (by omega) (by omega)
  | exact ⟨by omega, by omega⟩)
local macro_rules | `(tactic| walk_at "ty") => `(tactic| first
  | exact ty_int | exact ty_bl | exact ty_str | exact ty_non
  | exact ty_L (by assumption) | exact ty_T (by assumption)
  | exact ty_L (SqL.of (by assumption)) | exact ty_T (SqT.of (by assumption)))
local macro_rules | `(tactic| walk_at "kit") => `(tactic| first
  | exact k_ii | exact k_ib | exact k_is | exact k_il | exact k_it
  | exact k_bb | exact k_bi | exact k_bs | exact k_bl | exact k_bt
  | exact k_ss | exact k_sb | exact k_si | exact k_sl | exact k_st
  | exact k_ll | exact k_lb | exact k_li | exact k_ls | exact k_lt
  | exact k_tt | exact k_tb | exact k_ti | exact k_ts | exact k_tl
  | exact k_nn | exact k_ni | exact k_ns | exact k_nl | exact k_nt)
local macro_rules | `(tactic| walk_at "s1") => `(tactic| first
  | with_reducible refine w_seq ?_
  | with_reducible refine w_set ?_
  | with_reducible refine w_op ?_
  | ((with_reducible refine' w_var ?h1 ?_); (case h1 => rfl))
  | with_reducible refine w_c ?_
  | with_reducible refine w_cb ?_
  | with_reducible refine w_cons ?_
  | with_reducible refine w_nil ?_
  | with_reducible refine w_I0 ?_
  | ((with_reducible refine' w_I ?c1 ?_); case c1 => walk_at "cond")
  | with_reducible refine w_ret ?_
  | with_reducible refine w_next ?_
  | with_reducible refine w_ifS ?_
  | with_reducible refine w_test ?_
  | with_reducible refine w_tB ?_
  | with_reducible refine w_k ?_
  | with_reducible refine w_eqI ?_
  | with_reducible refine w_neI ?_
  | with_reducible refine w_eqS ?_
  | with_reducible refine w_neS ?_
  | with_reducible refine w_and ?_
  | with_reducible refine w_or ?_
  | with_reducible refine w_not ?_
  | with_reducible refine w_andV ?_
  | with_reducible refine w_orV ?_
  | with_reducible refine w_notV ?_
  | with_reducible refine w_ifE ?_
  | with_reducible refine w_true ?_
  | with_reducible refine w_false ?_
  | with_reducible refine w_ntrue ?_
  | with_reducible refine w_nfalse ?_
  | with_reducible refine w_call ?_
  | with_reducible refine c_int ?_
  | with_reducible refine c_abs ?_
  | with_reducible refine c_max ?_
  | with_reducible refine c_min ?_
  | with_reducible refine w_drop ?_
  | with_reducible refine w_sfld ?_
  | with_reducible refine w_meth ?_
  | with_reducible refine w_make ?_
  | with_reducible refine w_prop ?_
  | with_reducible refine w_callK ?_
  | with_reducible refine w_callN ?_
  | with_reducible refine w_star ?_
  | with_reducible refine w_gcons ?_
  | with_reducible refine w_gname ?_
  | with_reducible refine w_gnil ?_
  | with_reducible refine w_retN ?_
  | with_reducible refine w_tup ?_
  | with_reducible refine w_lst ?_
  | with_reducible refine w_fld ?_
  | with_reducible refine w_bm ?_
  | with_reducible refine w_bm0 ?_
  | with_reducible refine w_forL ?_
  | with_reducible refine w_forT ?_
  | with_reducible refine w_forS ?_
  | with_reducible refine w_forR ?_
  | with_reducible refine w_lcR ?_
  | with_reducible refine w_lcL ?_
  | with_reducible refine w_lcT ?_
  | with_reducible refine w_isN ?_
  | with_reducible refine w_notN ?_
  | with_reducible refine w_asg ?_
  | with_reducible refine w_gsub ?_
  | ((with_reducible refine' w_aug ?h1 ?_); (case h1 => rfl))
  | with_reducible refine w_augS ?_
  | with_reducible refine w_ipI ?_
  | with_reducible refine w_un ?_
  | with_reducible refine w_U ?_
  | ((with_reducible refine' w_iteF ?f1 ?_); case f1 => (first | (intro h; cases h; done) | decide))
  | ((with_reducible refine' w_iteT ?f1 ?_); case f1 => rfl)
  | ((with_reducible refine' w_iteNF ?f1 ?_); case f1 => rfl)
  | ((with_reducible refine' w_iteNT ?f1 ?_); case f1 => (first | (intro h; cases h; done) | decide))
  | ((with_reducible refine' c_isi ?t1 ?k1 ?_); (case t1 => walk_at "ty"); (case k1 => walk_at "kit"))
  | ((with_reducible refine' w_eq ?e1 ?_); case e1 => rfl)
  | ((with_reducible refine' w_ne ?e1 ?_); case e1 => rfl)
  | walk_at "u1")
local macro_rules | `(tactic| walk_at "s") => `(tactic| repeat walk_at "s1")
local macro_rules | `(tactic| walk_at "mem") => `(tactic| first | with_reducible exact List.mem_cons_self .. | ((with_reducible refine' List.mem_cons_of_mem _ ?q); (case q => walk_at "mem")) | assumption | ((with_reducible refine' List.mem_append_right _ ?q); (case q => walk_at "mem")) | (exact List.mem_append_left _ (by assumption)))
local macro_rules | `(tactic| walk_at "pk") => `(tactic| first | with_reducible exact Pk.here | ((with_reducible refine' Pk.there ?q); (case q => walk_at "pk")) | ((with_reducible refine' Pk.app ?q); (case q => walk_at "pk")))
local macro_rules | `(tactic| walk_at "pkb") => `(tactic| first | with_reducible exact PkB.here | ((with_reducible refine' PkB.there ?q); (case q => walk_at "pkb")) | ((with_reducible refine' PkB.app ?q); (case q => walk_at "pkb")))
local macro_rules | `(tactic| walk_at "spl") => `(tactic| first | with_reducible exact Spl.nil | ((with_reducible refine' Spl.cons ?h ?t); (case h => walk_at "pk"); (case t => walk_at "spl")) | ((with_reducible refine' Spl.blk ?h ?t); (case h => walk_at "pkb"); (case t => walk_at "spl")))
local macro_rules | `(tactic| walk_at "sbx") => `(tactic| first | with_reducible exact Sb.refl | with_reducible exact Sb.nil | with_reducible exact Sb.left | ((with_reducible refine' Sb.cons ?h ?t); (case h => walk_at "pk"); (case t => walk_at "sbx")) | ((with_reducible refine' Sb.blk ?h ?t); (case h => walk_at "pkb"); (case t => walk_at "sbx")) | ((with_reducible refine' Sb.drop ?q); (case q => walk_at "sbx")) | ((with_reducible refine' Sb.right ?q); (case q => walk_at "sbx")))
local macro_rules | `(tactic| walk_at "hd") => `(tactic| first | assumption | exact Hd.sb (by assumption) (by walk_at "sbx"))
local macro_rules | `(tactic| walk_at "sq") => `(tactic| first
  | assumption
  | exact Hd.sqL (by assumption) (by walk_at "mem")
  | exact Hd.sqT (by assumption) (by walk_at "mem")
  | exact Hd.sqF (by assumption) (by walk_at "mem")
  | (refine .inl ?_; walk_at "sq")
  | (refine .inr ?_; walk_at "sq"))
local macro_rules | `(tactic| walk_at "at") => `(tactic| first | rfl | assumption | exact atI_nat (by assumption))
local macro_rules | `(tactic| walk_at "dn1") => `(tactic| first
  | exact Dn.int | exact Dn.str | exact Dn.non | exact Dn.bl | assumption
  | ((refine' Dn.tp ?a1 ?m1 ?l1 ?p1); (case a1 => assumption); (case m1 => walk_at "mem"); (case l1 => (simp only [List.length_cons, List.length_nil]; omega)); (case p1 => walk_at "dns"))
  | ((refine' Dn.lt ?a1 ?m1 ?l1 ?p1); (case a1 => assumption); (case m1 => walk_at "mem"); (case l1 => (simp only [List.length_cons, List.length_nil]; omega)); (case p1 => walk_at "dns")))
local macro_rules | `(tactic| walk_at "dns") => `(tactic| first | exact Paired.nil | exact Dn.ints | ((refine' Paired.cons ?a1 ?b1); (case a1 => walk_at "dn1"); (case b1 => walk_at "dns")))
local macro_rules | `(tactic| walk_at "g1") => `(tactic| first
  | ((with_reducible refine' g_ixI ?h1 ?h2 ?h3 ?_); (case h1 => assumption); (case h2 => walk_at "mem"); (case h3 => omega); intro z hz)
  | ((with_reducible refine' g_ixIT ?h1 ?h2 ?h3 ?_); (case h1 => assumption); (case h2 => walk_at "mem"); (case h3 => omega); intro z hz)
  | ((with_reducible refine' g_setI ?h1 ?h2 ?h3 ?_); (case h1 => assumption); (case h2 => walk_at "pk"); (case h3 => omega); intro H2 hh2)
  | ((with_reducible refine' w_ixL ?h1 ?h2 ?_); (case h1 => walk_at "sq"); (case h2 => walk_at "at"))
  | ((with_reducible refine' w_ixT ?h1 ?h2 ?_); (case h1 => walk_at "sq"); (case h2 => walk_at "at"))
  | ((with_reducible refine' w_ixAny ?h1 ?h2 ?_); (case h1 => walk_at "sq"); (case h2 => walk_at "at"))
  | ((with_reducible refine' c_lenA ?h1 ?_); (case h1 => walk_at "sq"))
  | ((with_reducible refine' c_isi ?t1 ?k1 ?_); (case t1 => first | exact ty_T (by walk_at "sq") | exact ty_L (by walk_at "sq")); (case k1 => walk_at "kit"))
  | ((with_reducible refine' g_lst ?h1 ?h2 ?_); (case h1 => assumption); (case h2 => walk_at "sz"); intro p H2 hh2)
  | ((with_reducible refine' g_tup ?h1 ?h2 ?_); (case h1 => assumption); (case h2 => walk_at "sz"); intro p H2 hh2)
  | ((with_reducible refine' g_dict ?h1 ?_); (case h1 => assumption); intro p H2 hh2)
  | ((with_reducible refine' g_listL ?h1 ?h2 ?_); (case h1 => assumption); (case h2 => walk_at "sq"); intro p H2 hh2)
  | ((with_reducible refine' g_listT ?h1 ?h2 ?_); (case h1 => assumption); (case h2 => walk_at "sq"); intro p H2 hh2)
  | ((with_reducible refine' g_tupL ?h1 ?h2 ?_); (case h1 => assumption); (case h2 => walk_at "sq"); intro p H2 hh2)
  | ((with_reducible refine' g_set ?h1 ?h2 ?h3 ?_); (case h1 => assumption); (case h2 => walk_at "pk"); (case h3 => first | rfl | assumption | exact Evl.ixN_nat (by first | omega | (simp only [List.length_cons, List.length_nil]; omega))); intro H2 hh2)
  | ((with_reducible refine' g_kbm ?h1 ?h2 ?_); (case h1 => assumption); (case h2 => walk_at "mem"))
  | ((with_reducible refine' g_kbm0 ?h1 ?h2 ?_); (case h1 => assumption); (case h2 => walk_at "mem"))
  | ((with_reducible refine' g_app ?h1 ?h2 ?h3 ?_); (case h1 => assumption); (case h2 => walk_at "pk"); (case h3 => walk_at "sz"); intro H2 hh2)
  | ((with_reducible refine' g_kapp ?h1 ?h2 ?h3 ?_); (case h1 => assumption); (case h2 => walk_at "pk"); (case h3 => walk_at "sz"); intro H2 hh2)
  | ((with_reducible refine' g_fld ?h1 ?h2 ?h3 ?h4 ?h5 ?_); (case h1 => assumption); (case h2 => walk_at "mem"); (case h3 => assumption); (case h4 => assumption); (case h5 => rfl))
  | ((with_reducible refine' g_sfld ?h1 ?h2 ?h3 ?h4 ?h5 ?_); (case h1 => assumption); (case h2 => walk_at "pk"); (case h3 => assumption); (case h4 => assumption); (case h5 => decide); intro H2 hh2)
  | ((with_reducible refine' g_meth ?h1 ?h2 ?h3 ?_); (case h1 => assumption); (case h2 => walk_at "mem"); (case h3 => rfl))
  | ((with_reducible refine' g_prop ?h1 ?h2 ?_); (case h1 => assumption); (case h2 => walk_at "mem"))
  | ((with_reducible refine' g_make ?h1 ?_); (case h1 => assumption); intro x H2 hh2)
  | ((with_reducible refine' g_cat ?h1 ?h2 ?h3 ?h4 ?_); (case h1 => assumption); (case h2 => walk_at "mem"); (case h3 => walk_at "mem"); (case h4 => walk_at "sz"); intro p H2 hh2)
  | ((with_reducible refine' g_inT ?h1 ?h2 ?h3 ?h4 ?h5 ?_); (case h1 => assumption); (case h2 => walk_at "mem"); (case h3 => rfl); (case h4 => rfl); (case h5 => rfl)))
local macro_rules | `(tactic| walk_at "gs") => `(tactic| repeat first | walk_at "s1" | walk_at "g1")
local macro_rules | `(tactic| walk_at "ite") => `(tactic| first
  | ((with_reducible refine' w_iteT ?h1 ?_); (case h1 => omega))
  | ((with_reducible refine' w_iteF ?h1 ?_); (case h1 => omega))
  | (with_reducible refine w_ite ?_ ?_ <;> intro hq)
  | ((with_reducible refine' w_iteNT ?h1 ?_); (case h1 => omega))
  | ((with_reducible refine' w_iteNF ?h1 ?_); (case h1 => omega))
  | (with_reducible refine w_iteN ?_ ?_ <;> intro hq))
local macro_rules | `(tactic| walk_at "go") => `(tactic| repeat' first | walk_at "s1" | walk_at "g1" | walk_at "ite")
section
variable {P : Program} {w : World} {K : PySem.W.Frag} {mg : Str → Option Value} {base : Heap} {aREG aOPS : Addr}
def isR (v : V) (lo hi : Int) : Bool := match v with
  | .int i => decide (lo ≤ i ∧ i ≤ hi)
  | _ => false
def isI (v : V) : Bool := match v with
  | .int _ => true
  | _ => false
theorem kh_ty {H : Hp} {v : V} {t : String} (h : KH K H v t) : TyX K H v (.type t) := by
  cases h with
  | non => exact ty_non
  | bl => exact ty_bl
  | int => exact ty_int
  | str => exact ty_str
  | lst e => exact ty_L e
  | tup e => exact ty_T e
def sp_integer (K : PySem.W.Frag) : Sp := fun vs H Q _ => ∃ (v : V) (t : String), vs = [v] ∧ KH K H v t ∧ Q (.bl (isI v)) H
theorem c_integer (T : Txt K mg aREG aOPS) (d : DefAt K mg "is_integer" s_is_integer) : C8.Cal P w K mg base 1 "is_integer" (sp_integer K) [] := by
  refine mk d sc_is_integer (fun _ _ _ _ _ _ us hl => match us, hl with | [_], _ => rfl) (fun vs H Q E h => ?_) (fun f cdv A outer s H vs Q E hr h => ?_)
  · obtain ⟨v, t, rfl, _⟩ := h
    rfl
  · obtain ⟨v, t, rfl, kh, q⟩ := h
    refine ⟨_, (pss_one (ps_ret (pe_and (pe_callB call_isi (by rfl) T.b_isinstance (by decide +kernel) (pa_cons (pv 0) (pa_cons (pe_bltn (v := .ty "int") (by rfl) T.b_int (by decide +kernel) rfl) pa_nil))) (pe_one (pe_not (pe_callB call_isi (by rfl) T.b_isinstance (by decide +kernel) (pa_cons (pv 0) (pa_cons (pe_bltn (v := .ty "bool") (by rfl) T.b_bool (by decide +kernel) rfl) pa_nil)))))))), ?_⟩
    have ty := kh_ty kh
    cases kh <;> (walk_at "s"; exact q)
theorem u_integer {H : Hp} {v : V} {t : String} {Q : VK} {E : XK} (kh : KH K H v t) (q : Q (.bl (isI v)) H) : sp_integer K [v] H Q E := ⟨v, t, rfl, kh, q⟩
def sp_range (K : PySem.W.Frag) : Sp := fun vs H Q _ => ∃ (v : V) (t : String) (lo hi : Int), vs = [v, .int lo, .int hi] ∧ KH K H v t ∧ Q (.bl (isR v lo hi)) H
theorem u_range {H : Hp} {v : V} {t : String} {lo hi : Int} {Q : VK} {E : XK} (kh : KH K H v t) (q : Q (.bl (isR v lo hi)) H) : sp_range K [v, .int lo, .int hi] H Q E := ⟨v, t, lo, hi, rfl, kh, q⟩
theorem c_range (T : Txt K mg aREG aOPS) (d : DefAt K mg "is_in_range" s_is_in_range) (c_is_integer : C8.Cal P w K mg base 1 "is_integer" (sp_integer K) []) : C8.Cal P w K mg base 2 "is_in_range" (sp_range K) [] := by
  refine mk d sc_is_in_range (fun _ _ _ _ _ _ us hl => match us, hl with | [_, _, _], _ => rfl) (fun vs H Q E h => ?_) (fun f cdv A outer s H vs Q E hr h => ?_)
  · obtain ⟨v, t, lo, hi, rfl, _⟩ := h
    rfl
  · obtain ⟨v, t, lo, hi, rfl, kh, q⟩ := h
    refine ⟨_, (pss_one (ps_ret (pe_and (C8.pe_c c_is_integer hr (by first | decide | omega) rfl (pa_cons (pv 0) pa_nil)) (pe_one (pe_chain op_le op_le (pv 1) (pv 0) (pv 2)))))), ?_⟩
    walk_at "s"
    refine u_integer kh ?_
    cases kh with
    | int =>
      walk_at "s"
      show tChain (rI0 fun i j => V.bl (decide (i ≤ j))) (rI0 fun i j => V.bl (decide (i ≤ j))) (tVar 1) (tVar 0) (tVar 2) _ H _
      rename_i i
      refine ⟨_, rfl, _, rfl, _, _, rfl, rfl, _, rfl, ?_⟩
      by_cases h1 : lo ≤ i
      · rw [decide_eq_true h1]
        refine ⟨_, rfl, _, _, rfl, rfl, ?_⟩
        have e : decide (i ≤ hi) = isR (.int i) lo hi := by simp [isR, h1]
        show Q (.bl (decide (i ≤ hi))) H
        rw [e]
        exact q
      · rw [decide_eq_false h1]
        have e : false = isR (.int i) lo hi := by simp [isR, h1]
        show Q (.bl false) H
        rw [e]
        exact q
    | _ =>
      walk_at "s"
      exact q
def sp_ask (K : PySem.W.Frag) : Sp := fun vs H Q _ => ∃ (z : Str) (v : V) (t : String) (lo hi : Int), vs = [.str z, v, .int lo, .int hi] ∧ KH K H v t ∧ isR v lo hi = true ∧ Q .non H
theorem u_ask {H : Hp} {z : Str} {i lo hi : Int} {Q : VK} {E : XK} (h : lo ≤ i ∧ i ≤ hi) (q : Q .non H) : sp_ask K [.str z, .int i, .int lo, .int hi] H Q E := ⟨z, .int i, "int", lo, hi, rfl, .int, decide_eq_true h, q⟩
theorem c_ask (T : Txt K mg aREG aOPS) (d : DefAt K mg "ask_range" s_ask_range) (c_is_in_range : C8.Cal P w K mg base 2 "is_in_range" (sp_range K) []) : C8.Cal P w K mg base 3 "ask_range" (sp_ask K) [] := by
  refine mk d sc_ask_range (fun _ _ _ _ _ _ us hl => match us, hl with | [_, _, _, _], _ => rfl) (fun vs H Q E h => ?_) (fun f cdv A outer s H vs Q E hr h => ?_)
  · obtain ⟨z, v, t, lo, hi, rfl, _⟩ := h
    rfl
  · obtain ⟨z, v, t, lo, hi, rfl, kh, hb, q⟩ := h
    refine ⟨_, (pss_one (ps_if (pt_not (pt_val (C8.pe_c c_is_in_range hr (by first | decide | omega) rfl (pa_cons (pv 1) (pa_cons (pv 2) (pa_cons (pv 3) pa_nil))))))
    (pss_one ps_never)
    pss_nil)), ?_⟩
    walk_at "s"
    refine u_range kh ?_
    rw [hb]
    walk_at "s"
    exact q
def sp_askT : Sp := fun vs H Q _ => ∃ (z : Str) (b : Bool), vs = [.str z, .bl b] ∧ Q .non H
theorem c_askT (T : Txt K mg aREG aOPS) (d : DefAt K mg "ask_truth" s_ask_truth) : C8.Cal P w K mg base 1 "ask_truth" sp_askT [] := by
  refine mk d sc_ask_truth (fun _ _ _ _ _ _ us hl => match us, hl with | [_, _], _ => rfl) (fun vs H Q E h => ?_) (fun f cdv A outer s H vs Q E hr h => ?_)
  · obtain ⟨z, b, rfl, _⟩ := h
    rfl
  · obtain ⟨z, b, rfl, q⟩ := h
    refine ⟨_, (pss_one (ps_if (pt_not (pt_val (pe_callB call_isi (by rfl) T.b_isinstance (by decide +kernel) (pa_cons (pv 1) (pa_cons (pe_bltn (v := .ty "bool") (by rfl) T.b_bool (by decide +kernel) rfl) pa_nil)))))
    (pss_one ps_never)
    pss_nil)), ?_⟩
    walk_at "s"
    exact q
end
end K23
set_option Elab.async false
set_option linter.all false
set_option maxRecDepth 100000
set_option maxHeartbeats 4000000
namespace K23
open PySem PySem.Spec PyProof.Rows L2 Wk
local macro_rules | `(tactic| walk_at "u1") => `(tactic| fail "no more")
local macro_rules | `(tactic| walk_at "pos") => `(tactic| first | assumption | omega | decide | (simp only [Int.ofNat_eq_natCast] at *; omega))
local macro_rules | `(tactic| walk_at "sz") => `(tactic| first
  | (simp only [List.length_cons, List.length_nil]; decide)
  | exact Evl.sz_of (by omega)
  | exact Evl.sz_lt (by omega)
  | exact Evl.sz_of (by simp only [List.length_map, List.length_append, List.length_cons, List.length_nil, List.length_replicate]; omega)
  | exact Evl.sz_lt (by simp only [List.length_map, List.length_append, List.length_cons, List.length_nil, List.length_replicate]; omega))
local macro_rules | `(tactic| walk_at "cond") => `(tactic| first
  | exact Or.inr ⟨by decide, by decide⟩
  | (show (0 : Int) < _; first | decide | assumption | omega)
  | exact Or.inl ⟨by omega, by omega⟩
  | exact Or.inr ⟨by omega, by omega⟩
  | exact ⟨by decide, by decide, by decide⟩
  | exact log2_lt (by omega) (by omega)
  | exact ⟨by omega, by omega⟩)
local macro_rules | `(tactic| walk_at "ty") => `(tactic| first
  | exact ty_int | exact ty_bl | exact ty_str | exact ty_non
  | exact ty_L (by assumption) | exact ty_T (by assumption)
  | exact ty_L (SqL.of (by assumption)) | exact ty_T (SqT.of (by assumption)))
local macro_rules | `(tactic| walk_at "kit") => `(tactic| first
  | exact k_ii | exact k_ib | exact k_is | exact k_il | exact k_it
  | exact k_bb | exact k_bi | exact k_bs | exact k_bl | exact k_bt
  | exact k_ss | exact k_sb | exact k_si | exact k_sl | exact k_st
  | exact k_ll | exact k_lb | exact k_li | exact k_ls | exact k_lt
  | exact k_tt | exact k_tb | exact k_ti | exact k_ts | exact k_tl
  | exact k_nn | exact k_ni | exact k_ns | exact k_nl | exact k_nt)
local macro_rules | `(tactic| walk_at "s1") => `(tactic| first
  | with_reducible refine w_seq ?_
  | with_reducible refine w_set ?_
  | with_reducible refine w_op ?_
  | ((with_reducible refine' w_var ?h1 ?_); (case h1 => rfl))
  | with_reducible refine w_c ?_
  | with_reducible refine w_cb ?_
  | with_reducible refine w_cons ?_
  | with_reducible refine w_nil ?_
  | with_reducible refine w_I0 ?_
  | ((with_reducible refine' w_I ?c1 ?_); case c1 => walk_at "cond")
  | with_reducible refine w_ret ?_
  | with_reducible refine w_next ?_
  | with_reducible refine w_ifS ?_
  | with_reducible refine w_test ?_
  | with_reducible refine w_tB ?_
  | with_reducible refine w_k ?_
  | with_reducible refine w_eqI ?_
  | with_reducible refine w_neI ?_
  | with_reducible refine w_eqS ?_
  | with_reducible refine w_neS ?_
  | with_reducible refine w_and ?_
  | with_reducible refine w_or ?_
  | with_reducible refine w_not ?_
  | with_reducible refine w_andV ?_
  | with_reducible refine w_orV ?_
  | with_reducible refine w_notV ?_
  | with_reducible refine w_ifE ?_
  | with_reducible refine w_true ?_
  | with_reducible refine w_false ?_
  | with_reducible refine w_ntrue ?_
  | with_reducible refine w_nfalse ?_
  | with_reducible refine w_call ?_
  | with_reducible refine c_int ?_
  | with_reducible refine c_abs ?_
  | with_reducible refine c_max ?_
  | with_reducible refine c_min ?_
  | with_reducible refine w_drop ?_
  | with_reducible refine w_sfld ?_
  | with_reducible refine w_meth ?_
  | with_reducible refine w_make ?_
  | with_reducible refine w_prop ?_
  | with_reducible refine w_callK ?_
  | with_reducible refine w_callN ?_
  | with_reducible refine w_star ?_
  | with_reducible refine w_gcons ?_
  | with_reducible refine w_gname ?_
  | with_reducible refine w_gnil ?_
  | with_reducible refine w_retN ?_
  | with_reducible refine w_tup ?_
  | with_reducible refine w_lst ?_
  | with_reducible refine w_fld ?_
  | with_reducible refine w_bm ?_
  | with_reducible refine w_bm0 ?_
  | with_reducible refine w_forL ?_
  | with_reducible refine w_forT ?_
  | with_reducible refine w_forS ?_
  | with_reducible refine w_forR ?_
  | with_reducible refine w_lcR ?_
  | with_reducible refine w_lcL ?_
  | with_reducible refine w_lcT ?_
  | with_reducible refine w_isN ?_
  | with_reducible refine w_notN ?_
  | with_reducible refine w_asg ?_
  | with_reducible refine w_gsub ?_
  | ((with_reducible refine' w_aug ?h1 ?_); (case h1 => rfl))
  | with_reducible refine w_augS ?_
  | with_reducible refine w_ipI ?_
  | with_reducible refine w_un ?_
  | with_reducible refine w_U ?_
  | ((with_reducible refine' w_iteF ?f1 ?_); case f1 => (first | (intro h; cases h; done) | decide))
  | ((with_reducible refine' w_iteT ?f1 ?_); case f1 => rfl)
  | ((with_reducible refine' w_iteNF ?f1 ?_); case f1 => rfl)
  | ((with_reducible refine' w_iteNT ?f1 ?_); case f1 => (first | (intro h; cases h; done) | decide))
  | ((with_reducible refine' c_isi ?t1 ?k1 ?_); (case t1 => walk_at "ty"); (case k1 => walk_at "kit"))
  | ((with_reducible refine' w_eq ?e1 ?_); case e1 => rfl)
  | ((with_reducible refine' w_ne ?e1 ?_); case e1 => rfl)
  | walk_at "u1")
local macro_rules | `(tactic| walk_at "s") => `(tactic| repeat walk_at "s1")
local macro_rules | `(tactic| walk_at "mem") => `(tactic| first | with_reducible exact List.mem_cons_self .. | ((with_reducible refine' List.mem_cons_of_mem _ ?q); (case q => walk_at "mem")) | assumption | ((with_reducible refine' List.mem_append_right _ ?q); (case q => walk_at "mem")) | (exact List.mem_append_left _ (by assumption)))
local macro_rules | `(tactic| walk_at "pk") => `(tactic| first | with_reducible exact Pk.here | ((with_reducible refine' Pk.there ?q); (case q => walk_at "pk")) | ((with_reducible refine' Pk.app ?q); (case q => walk_at "pk")))
local macro_rules | `(tactic| walk_at "pkb") => `(tactic| first | with_reducible exact PkB.here | ((with_reducible refine' PkB.there ?q); (case q => walk_at "pkb")) | ((with_reducible refine' PkB.app ?q); (case q => walk_at "pkb")))
local macro_rules | `(tactic| walk_at "spl") => `(tactic| first | with_reducible exact Spl.nil | ((with_reducible refine' Spl.cons ?h ?t); (case h => walk_at "pk"); (case t => walk_at "spl")) | ((with_reducible refine' Spl.blk ?h ?t); (case h => walk_at "pkb"); (case t => walk_at "spl")))
local macro_rules | `(tactic| walk_at "sbx") => `(tactic| first | with_reducible exact Sb.refl | with_reducible exact Sb.nil | with_reducible exact Sb.left | ((with_reducible refine' Sb.cons ?h ?t); (case h => walk_at "pk"); (case t => walk_at "sbx")) | ((with_reducible refine' Sb.blk ?h ?t); (case h => walk_at "pkb"); (case t => walk_at "sbx")) | ((with_reducible refine' Sb.drop ?q); (case q => walk_at "sbx")) | ((with_reducible refine' Sb.right ?q); (case q => walk_at "sbx")))
local macro_rules | `(tactic| walk_at "hd") => `(tactic| first | assumption | exact Hd.sb (by assumption) (by walk_at "sbx"))
local macro_rules | `(tactic| walk_at "sq") => `(tactic| first
  | assumption
  | exact Hd.sqL (by assumption) (by walk_at "mem")
  | exact Hd.sqT (by assumption) (by walk_at "mem")
  | exact Hd.sqF (by assumption) (by walk_at "mem")
  | (refine .inl ?_; walk_at "sq")
  | (refine .inr ?_; walk_at "sq"))
local macro_rules | `(tactic| walk_at "at") => `(tactic| first | rfl | assumption | exact atI_nat (by assumption))
local macro_rules | `(tactic| walk_at "dn1") => `(tactic| first
  | exact Dn.int | exact Dn.str | exact Dn.non | exact Dn.bl | assumption
  | ((refine' Dn.tp ?a1 ?m1 ?l1 ?p1); (case a1 => assumption); (case m1 => walk_at "mem"); (case l1 => (simp only [List.length_cons, List.length_nil]; omega)); (case p1 => walk_at "dns"))
  | ((refine' Dn.lt ?a1 ?m1 ?l1 ?p1); (case a1 => assumption); (case m1 => walk_at "mem"); (case l1 => (simp only [List.length_cons, List.length_nil]; omega)); (case p1 => walk_at "dns")))
local macro_rules | `(tactic| walk_at "dns") => `(tactic| first | exact Paired.nil | exact Dn.ints | ((refine' Paired.cons ?a1 ?b1); (case a1 => walk_at "dn1"); (case b1 => walk_at "dns")))
local macro_rules | `(tactic| walk_at "g1") => `(tactic| first
  | ((with_reducible refine' g_ixI ?h1 ?h2 ?h3 ?_); (case h1 => assumption); (case h2 => walk_at "mem"); (case h3 => omega); intro z hz)
  | ((with_reducible refine' g_ixIT ?h1 ?h2 ?h3 ?_); (case h1 => assumption); (case h2 => walk_at "mem"); (case h3 => omega); intro z hz)
  | ((with_reducible refine' g_setI ?h1 ?h2 ?h3 ?_); (case h1 => assumption); (case h2 => walk_at "pk"); (case h3 => omega); intro H2 hh2)
  | ((with_reducible refine' w_ixL ?h1 ?h2 ?_); (case h1 => walk_at "sq"); (case h2 => walk_at "at"))
  | ((with_reducible refine' w_ixT ?h1 ?h2 ?_); (case h1 => walk_at "sq"); (case h2 => walk_at "at"))
  | ((with_reducible refine' w_ixAny ?h1 ?h2 ?_); (case h1 => walk_at "sq"); (case h2 => walk_at "at"))
  | ((with_reducible refine' c_lenA ?h1 ?_); (case h1 => walk_at "sq"))
  | ((with_reducible refine' c_isi ?t1 ?k1 ?_); (case t1 => first | exact ty_T (by walk_at "sq") | exact ty_L (by walk_at "sq")); (case k1 => walk_at "kit"))
  | ((with_reducible refine' g_lst ?h1 ?h2 ?_); (case h1 => assumption); (case h2 => walk_at "sz"); intro p H2 hh2)
  | ((with_reducible refine' g_tup ?h1 ?h2 ?_); (case h1 => assumption); (case h2 => walk_at "sz"); intro p H2 hh2)
  | ((with_reducible refine' g_dict ?h1 ?_); (case h1 => assumption); intro p H2 hh2)
  | ((with_reducible refine' g_listL ?h1 ?h2 ?_); (case h1 => assumption); (case h2 => walk_at "sq"); intro p H2 hh2)
  | ((with_reducible refine' g_listT ?h1 ?h2 ?_); (case h1 => assumption); (case h2 => walk_at "sq"); intro p H2 hh2)
  | ((with_reducible refine' g_tupL ?h1 ?h2 ?_); (case h1 => assumption); (case h2 => walk_at "sq"); intro p H2 hh2)
  | ((with_reducible refine' g_set ?h1 ?h2 ?h3 ?_); (case h1 => assumption); (case h2 => walk_at "pk"); (case h3 => first | rfl | assumption | exact Evl.ixN_nat (by first | omega | (simp only [List.length_cons, List.length_nil]; omega))); intro H2 hh2)
  | ((with_reducible refine' g_kbm ?h1 ?h2 ?_); (case h1 => assumption); (case h2 => walk_at "mem"))
  | ((with_reducible refine' g_kbm0 ?h1 ?h2 ?_); (case h1 => assumption); (case h2 => walk_at "mem"))
  | ((with_reducible refine' g_app ?h1 ?h2 ?h3 ?_); (case h1 => assumption); (case h2 => walk_at "pk"); (case h3 => walk_at "sz"); intro H2 hh2)
  | ((with_reducible refine' g_kapp ?h1 ?h2 ?h3 ?_); (case h1 => assumption); (case h2 => walk_at "pk"); (case h3 => walk_at "sz"); intro H2 hh2)
  | ((with_reducible refine' g_fld ?h1 ?h2 ?h3 ?h4 ?h5 ?_); (case h1 => assumption); (case h2 => walk_at "mem"); (case h3 => assumption); (case h4 => assumption); (case h5 => rfl))
  | ((with_reducible refine' g_sfld ?h1 ?h2 ?h3 ?h4 ?h5 ?_); (case h1 => assumption); (case h2 => walk_at "pk"); (case h3 => assumption); (case h4 => assumption); (case h5 => decide); intro H2 hh2)
  | ((with_reducible refine' g_meth ?h1 ?h2 ?h3 ?_); (case h1 => assumption); (case h2 => walk_at "mem"); (case h3 => rfl))
  | ((with_reducible refine' g_prop ?h1 ?h2 ?_); (case h1 => assumption); (case h2 => walk_at "mem"))
  | ((with_reducible refine' g_make ?h1 ?_); (case h1 => assumption); intro x H2 hh2)
  | ((with_reducible refine' g_cat ?h1 ?h2 ?h3 ?h4 ?_); (case h1 => assumption); (case h2 => walk_at "mem"); (case h3 => walk_at "mem"); (case h4 => walk_at "sz"); intro p H2 hh2)
  | ((with_reducible refine' g_inT ?h1 ?h2 ?h3 ?h4 ?h5 ?_); (case h1 => assumption); (case h2 => walk_at "mem"); (case h3 => rfl); (case h4 => rfl); (case h5 => rfl)))
local macro_rules | `(tactic| walk_at "gs") => `(tactic| repeat first | walk_at "s1" | walk_at "g1")
local macro_rules | `(tactic| walk_at "ite") => `(tactic| first
  | ((with_reducible refine' w_iteT ?h1 ?_); (case h1 => omega))
  | ((with_reducible refine' w_iteF ?h1 ?_); (case h1 => omega))
  | (with_reducible refine w_ite ?_ ?_ <;> intro hq)
  | ((with_reducible refine' w_iteNT ?h1 ?_); (case h1 => omega))
  | ((with_reducible refine' w_iteNF ?h1 ?_); (case h1 => omega))
  | (with_reducible refine w_iteN ?_ ?_ <;> intro hq))
local macro_rules | `(tactic| walk_at "go") => `(tactic| repeat' first | walk_at "s1" | walk_at "g1" | walk_at "ite")
local macro_rules | `(tactic| walk_at "g1") => `(tactic| first | with_reducible refine w_din ?_ | with_reducible refine w_dnotin ?_ | with_reducible refine w_dget ?_ | with_reducible refine w_dput ?_ | with_reducible refine w_ddel ?_ | with_reducible refine w_dpop ?_)
section
variable {P : Program} {w : World} {K : PySem.W.Frag} {mg : Str → Option Value} {base : Heap} {aREG aOPS : Addr}
/-! ### the draws, over the ledger -/
def stoC (st c : Addr) : Cell := (st, fun o => ∃ i b t z : Int, o = .lst [.ref c, .int i, .int b, .int t, .int z] ∧ 0 ≤ i ∧ 0 ≤ b ∧ 0 ≤ z ∧ z < 2147483647)
def scrC (c : Addr) : Cell := (c, fun o => ∃ ns : List Int, o = .lst (ns.map V.int))
section
variable {st c : Addr} {H H' : Hp} {L R : List Cell} {Q : VK} {E : XK}
theorem Hd.sto (h : Hd H L) (m1 : stoC st c ∈ L) (m2 : scrC c ∈ L) : StoreAt H st c := by
  obtain ⟨o, e, i, b, t, z, q, r⟩ := h.at_ _ m1
  obtain ⟨u, e2, ns, q2⟩ := h.at_ _ m2
  subst q; subst q2
  exact ⟨ns, i, b, t, z, e, e2, r⟩
theorem Hd.ofSto (S : StoreAt H st c) : Hd H [stoC st c, scrC c] := by
  have ne := S.ne
  obtain ⟨ns, i, b, t, z, e1, e2, r⟩ := S
  exact Hd.two (c := stoC st c) (d := scrC c) e1 ⟨i, b, t, z, rfl, r⟩ e2 ⟨ns, rfl⟩ (Ne.symm ne)
theorem Hd.st0 (h : Hd H (stoC st c :: scrC c :: R)) : StoreAt H st c := Hd.sto h (List.mem_cons_self ..) (List.mem_cons_of_mem _ (List.mem_cons_self ..))
theorem Hd.drawn (h : Hd H (stoC st c :: scrC c :: R)) (S : StoreAt H' st c) (u : Upt [st] H H') : Hd H' (stoC st c :: scrC c :: R) :=
  Hd.put (A := [stoC st c, scrC c]) (B := [stoC st c, scrC c]) h u (fun a ha => by rw [List.mem_singleton.mp ha]; exact List.mem_cons_self ..) (Hd.ofSto S) fun c hc => .inl (List.mem_map_of_mem hc)
theorem g_store {a : Addr} {ns : List Int} {z : Int} (hh : Hd H L) (h : SqL K H a (ns.map V.int)) (hl : ns.length ≤ 63) (h0 : 0 ≤ z) (h1 : z ≤ 200000) (q : ∀ st c H', Hd H' (stoC st c :: scrC c :: L) → Q (.ref st) H') : sp_store K [.ref a, .int z] H Q E :=
  u_store h hl h0 h1 fun st c H' n1 n2 S u => q st c H' (Hd.put (A := []) (B := [stoC st c, scrC c]) (S := []) hh u (by simp) (Hd.ofSto S) fun x hx => by
    rcases List.mem_cons.mp hx with rfl | hx
    · exact .inr n1
    · rw [List.mem_singleton.mp hx]; exact .inr n2)
theorem g_take {m : Int} (hh : Hd H L) (s : Spl L [stoC st c, scrC c] R) (hm : m ≤ 4611686018427387904) (q : ∀ (k : Nat) H', ((k : Int) < m ∨ k = 0) → Hd H' (stoC st c :: scrC c :: R) → Q (.int k) H') : sp_take [.ref st, .int m] H Q E :=
  have h := hh.spl s
  u_take (Hd.st0 h) hm fun k H' hk S u => by
    obtain ⟨j, rfl⟩ := Int.eq_ofNat_of_zero_le hk.1
    exact q j H' (by have := hk.2; omega) (Hd.drawn h S u)
theorem g_take1 {m : Int} (hh : Hd H L) (s : Spl L [stoC st c, scrC c] R) (hm : 0 < m) (hm2 : m ≤ 4611686018427387904) (q : ∀ (k : Nat) H', (k : Int) < m → Hd H' (stoC st c :: scrC c :: R) → Q (.int k) H') : sp_take [.ref st, .int m] H Q E :=
  g_take hh s hm2 fun k H' h0 hh' => q k H' (by omega) hh'
theorem g_pick {r : Addr} {xs : List V} (hh : Hd H L) (s : Spl L [stoC st c, scrC c] R) (m : lstC r xs ∈ R) (h0 : 0 < xs.length) (h1 : xs.length ≤ 100000) (q : ∀ v H', v ∈ xs → Hd H' (stoC st c :: scrC c :: R) → Q v H') : sp_pick K [.ref st, .ref r] H Q E :=
  have h := hh.spl s
  u_pick (Hd.st0 h) (h.sqL (List.mem_cons_of_mem _ (List.mem_cons_of_mem _ m))) (h.ne (c := stoC st c) (d := lstC r xs) (List.mem_cons_of_mem _ m)) h0 h1 fun v H' hv S u => q v H' hv (Hd.drawn h S u)
theorem g_between {lo hi : Int} (hh : Hd H L) (s : Spl L [stoC st c, scrC c] R) (h0 : lo ≤ hi) (h1 : hi - lo < 4611686018427387904) (q : ∀ k H', lo ≤ k → k ≤ hi → Hd H' (stoC st c :: scrC c :: R) → Q (.int k) H') : sp_between [.ref st, .int lo, .int hi] H Q E :=
  have h := hh.spl s
  u_between (Hd.st0 h) h0 h1 fun k H' hk S u => q k H' hk.1 hk.2 (Hd.drawn h S u)
theorem g_betweenN {lo hi : Int} (hh : Hd H L) (s : Spl L [stoC st c, scrC c] R) (hn : 0 ≤ lo) (h0 : lo ≤ hi) (h1 : hi - lo < 4611686018427387904) (q : ∀ (k : Nat) H', lo ≤ k → (k : Int) ≤ hi → Hd H' (stoC st c :: scrC c :: R) → Q (.int k) H') : sp_between [.ref st, .int lo, .int hi] H Q E :=
  g_between hh s h0 h1 fun k H' a b hh' => by
    obtain ⟨j, rfl⟩ := Int.eq_ofNat_of_zero_le (show 0 ≤ k by omega)
    exact q j H' a b hh'
theorem g_size {m : Int} (hh : Hd H L) (s : Spl L [stoC st c, scrC c] R) (h0 : 0 ≤ m) (h1 : m ≤ 1000000) (q : ∀ (k : Nat) H', (k : Int) ≤ m → Hd H' (stoC st c :: scrC c :: R) → Q (.int k) H') : sp_size [.ref st, .int m] H Q E :=
  have h := hh.spl s
  u_size (Hd.st0 h) h0 h1 fun k H' hk S u => by
    obtain ⟨j, rfl⟩ := Int.eq_ofNat_of_zero_le hk.1
    exact q j H' hk.2 (Hd.drawn h S u)
theorem g_word (hh : Hd H L) (s : Spl L [stoC st c, scrC c] R) (q : ∀ (k : Nat) H', k ≤ 65535 → Hd H' (stoC st c :: scrC c :: R) → Q (.int k) H') : sp_word [.ref st] H Q E :=
  have h := hh.spl s
  u_word (Hd.st0 h) fun k H' hk S u => by
    obtain ⟨j, rfl⟩ := Int.eq_ofNat_of_zero_le hk.1
    exact q j H' (by omega) (Hd.drawn h S u)
theorem g_alike {n : Nat} {v1 v2 : V} {d : PyData} (h1 : Dn K [] H n v1 d) (h2 : Dn K [] H n v2 d) (q : Q (.bl true) H) : sp_alike K (n + 1) [v1, v2] H Q E := ⟨v1, v2, d, rfl, ⟨h1, h2⟩, q⟩
end
theorem rep_ints {k : Int} : ∀ n : Nat, (List.replicate n [V.int k]).flatten = (List.replicate n k).map V.int
  | 0 => rfl
  | n + 1 => by rw [List.replicate_succ, List.flatten_cons, rep_ints n, List.replicate_succ, List.map_cons]; rfl
end
end K23
set_option Elab.async false
set_option linter.all false
set_option maxRecDepth 100000
set_option maxHeartbeats 4000000
namespace K23
open PySem PySem.Spec PyProof.Rows L2 Wk
local macro_rules | `(tactic| walk_at "u1") => `(tactic| fail "no more")
local macro_rules | `(tactic| walk_at "pos") => `(tactic| first | assumption | omega | decide | (simp only [Int.ofNat_eq_natCast] at *; omega))
local macro_rules | `(tactic| walk_at "sz") => `(tactic| first
  | (simp only [List.length_cons, List.length_nil]; decide)
  | exact Evl.sz_of (by omega)
  | exact Evl.sz_lt (by omega)
  | exact Evl.sz_of (by simp only [List.length_map, List.length_append, List.length_cons, List.length_nil, List.length_replicate]; omega)
  | exact Evl.sz_lt (by simp only [List.length_map, List.length_append, List.length_cons, List.length_nil, List.length_replicate]; omega))
local macro_rules | `(tactic| walk_at "cond") => `(tactic| first
  | exact Or.inr ⟨by decide, by decide⟩
  | (show (0 : Int) < _; first | decide | assumption | omega)
  | exact Or.inl ⟨by omega, by omega⟩
  | exact Or.inr ⟨by omega, by omega⟩
  | exact ⟨by decide, by decide, by decide⟩
  | exact log2_lt (by omega) (by omega)
  | exact ⟨by omega, by omega⟩)
local macro_rules | `(tactic| walk_at "ty") => `(tactic| first
  | exact ty_int | exact ty_bl | exact ty_str | exact ty_non
  | exact ty_L (by assumption) | exact ty_T (by assumption)
  | exact ty_L (SqL.of (by assumption)) | exact ty_T (SqT.of (by assumption)))
local macro_rules | `(tactic| walk_at "kit") => `(tactic| first
  | exact k_ii | exact k_ib | exact k_is | exact k_il | exact k_it
  | exact k_bb | exact k_bi | exact k_bs | exact k_bl | exact k_bt
  | exact k_ss | exact k_sb | exact k_si | exact k_sl | exact k_st
  | exact k_ll | exact k_lb | exact k_li | exact k_ls | exact k_lt
  | exact k_tt | exact k_tb | exact k_ti | exact k_ts | exact k_tl
  | exact k_nn | exact k_ni | exact k_ns | exact k_nl | exact k_nt)
local macro_rules | `(tactic| walk_at "s1") => `(tactic| first
  | with_reducible refine w_seq ?_
  | with_reducible refine w_set ?_
  | with_reducible refine w_op ?_
  | ((with_reducible refine' w_var ?h1 ?_); (case h1 => rfl))
  | with_reducible refine w_c ?_
  | with_reducible refine w_cb ?_
  | with_reducible refine w_cons ?_
  | with_reducible refine w_nil ?_
  | with_reducible refine w_I0 ?_
  | ((with_reducible refine' w_I ?c1 ?_); case c1 => walk_at "cond")
  | with_reducible refine w_ret ?_
  | with_reducible refine w_next ?_
  | with_reducible refine w_ifS ?_
  | with_reducible refine w_test ?_
  | with_reducible refine w_tB ?_
  | with_reducible refine w_k ?_
  | with_reducible refine w_eqI ?_
  | with_reducible refine w_neI ?_
  | with_reducible refine w_eqS ?_
  | with_reducible refine w_neS ?_
  | with_reducible refine w_and ?_
  | with_reducible refine w_or ?_
  | with_reducible refine w_not ?_
  | with_reducible refine w_andV ?_
  | with_reducible refine w_orV ?_
  | with_reducible refine w_notV ?_
  | with_reducible refine w_ifE ?_
  | with_reducible refine w_true ?_
  | with_reducible refine w_false ?_
  | with_reducible refine w_ntrue ?_
  | with_reducible refine w_nfalse ?_
  | with_reducible refine w_call ?_
  | with_reducible refine c_int ?_
  | with_reducible refine c_abs ?_
  | with_reducible refine c_max ?_
  | with_reducible refine c_min ?_
  | with_reducible refine w_drop ?_
  | with_reducible refine w_sfld ?_
  | with_reducible refine w_meth ?_
  | with_reducible refine w_make ?_
  | with_reducible refine w_prop ?_
  | with_reducible refine w_callK ?_
  | with_reducible refine w_callN ?_
  | with_reducible refine w_star ?_
  | with_reducible refine w_gcons ?_
  | with_reducible refine w_gname ?_
  | with_reducible refine w_gnil ?_
  | with_reducible refine w_retN ?_
  | with_reducible refine w_tup ?_
  | with_reducible refine w_lst ?_
  | with_reducible refine w_fld ?_
  | with_reducible refine w_bm ?_
  | with_reducible refine w_bm0 ?_
  | with_reducible refine w_forL ?_
  | with_reducible refine w_forT ?_
  | with_reducible refine w_forS ?_
  | with_reducible refine w_forR ?_
  | with_reducible refine w_lcR ?_
  | with_reducible refine w_lcL ?_
  | with_reducible refine w_lcT ?_
  | with_reducible refine w_isN ?_
  | with_reducible refine w_notN ?_
  | with_reducible refine w_asg ?_
  | with_reducible refine w_gsub ?_
  | ((with_reducible refine' w_aug ?h1 ?_); (case h1 => rfl))
  | with_reducible refine w_augS ?_
  | with_reducible refine w_ipI ?_
  | with_reducible refine w_un ?_
  | with_reducible refine w_U ?_
  | ((with_reducible refine' w_iteF ?f1 ?_); case f1 => (first | (intro h; cases h; done) | decide))
  | ((with_reducible refine' w_iteT ?f1 ?_); case f1 => rfl)
  | ((with_reducible refine' w_iteNF ?f1 ?_); case f1 => rfl)
  | ((with_reducible refine' w_iteNT ?f1 ?_); case f1 => (first | (intro h; cases h; done) | decide))
  | ((with_reducible refine' c_isi ?t1 ?k1 ?_); (case t1 => walk_at "ty"); (case k1 => walk_at "kit"))
  | ((with_reducible refine' w_eq ?e1 ?_); case e1 => rfl)
  | ((with_reducible refine' w_ne ?e1 ?_); case e1 => rfl)
  | walk_at "u1")
local macro_rules | `(tactic| walk_at "s") => `(tactic| repeat walk_at "s1")
local macro_rules | `(tactic| walk_at "mem") => `(tactic| first | with_reducible exact List.mem_cons_self .. | ((with_reducible refine' List.mem_cons_of_mem _ ?q); (case q => walk_at "mem")) | assumption | ((with_reducible refine' List.mem_append_right _ ?q); (case q => walk_at "mem")) | (exact List.mem_append_left _ (by assumption)))
local macro_rules | `(tactic| walk_at "pk") => `(tactic| first | with_reducible exact Pk.here | ((with_reducible refine' Pk.there ?q); (case q => walk_at "pk")) | ((with_reducible refine' Pk.app ?q); (case q => walk_at "pk")))
local macro_rules | `(tactic| walk_at "pkb") => `(tactic| first | with_reducible exact PkB.here | ((with_reducible refine' PkB.there ?q); (case q => walk_at "pkb")) | ((with_reducible refine' PkB.app ?q); (case q => walk_at "pkb")))
local macro_rules | `(tactic| walk_at "spl") => `(tactic| first | with_reducible exact Spl.nil | ((with_reducible refine' Spl.cons ?h ?t); (case h => walk_at "pk"); (case t => walk_at "spl")) | ((with_reducible refine' Spl.blk ?h ?t); (case h => walk_at "pkb"); (case t => walk_at "spl")))
local macro_rules | `(tactic| walk_at "sbx") => `(tactic| first | with_reducible exact Sb.refl | with_reducible exact Sb.nil | with_reducible exact Sb.left | ((with_reducible refine' Sb.cons ?h ?t); (case h => walk_at "pk"); (case t => walk_at "sbx")) | ((with_reducible refine' Sb.blk ?h ?t); (case h => walk_at "pkb"); (case t => walk_at "sbx")) | ((with_reducible refine' Sb.drop ?q); (case q => walk_at "sbx")) | ((with_reducible refine' Sb.right ?q); (case q => walk_at "sbx")))
local macro_rules | `(tactic| walk_at "hd") => `(tactic| first | assumption | exact Hd.sb (by assumption) (by walk_at "sbx"))
local macro_rules | `(tactic| walk_at "sq") => `(tactic| first
  | assumption
  | exact Hd.sqL (by assumption) (by walk_at "mem")
  | exact Hd.sqT (by assumption) (by walk_at "mem")
  | exact Hd.sqF (by assumption) (by walk_at "mem")
  | (refine .inl ?_; walk_at "sq")
  | (refine .inr ?_; walk_at "sq"))
local macro_rules | `(tactic| walk_at "at") => `(tactic| first | rfl | assumption | exact atI_nat (by assumption))
local macro_rules | `(tactic| walk_at "dn1") => `(tactic| first
  | exact Dn.int | exact Dn.str | exact Dn.non | exact Dn.bl | assumption
  | ((refine' Dn.tp ?a1 ?m1 ?l1 ?p1); (case a1 => assumption); (case m1 => walk_at "mem"); (case l1 => (simp only [List.length_cons, List.length_nil]; omega)); (case p1 => walk_at "dns"))
  | ((refine' Dn.lt ?a1 ?m1 ?l1 ?p1); (case a1 => assumption); (case m1 => walk_at "mem"); (case l1 => (simp only [List.length_cons, List.length_nil]; omega)); (case p1 => walk_at "dns")))
local macro_rules | `(tactic| walk_at "dns") => `(tactic| first | exact Paired.nil | exact Dn.ints | ((refine' Paired.cons ?a1 ?b1); (case a1 => walk_at "dn1"); (case b1 => walk_at "dns")))
local macro_rules | `(tactic| walk_at "g1") => `(tactic| first
  | ((with_reducible refine' g_ixI ?h1 ?h2 ?h3 ?_); (case h1 => assumption); (case h2 => walk_at "mem"); (case h3 => omega); intro z hz)
  | ((with_reducible refine' g_ixIT ?h1 ?h2 ?h3 ?_); (case h1 => assumption); (case h2 => walk_at "mem"); (case h3 => omega); intro z hz)
  | ((with_reducible refine' g_setI ?h1 ?h2 ?h3 ?_); (case h1 => assumption); (case h2 => walk_at "pk"); (case h3 => omega); intro H2 hh2)
  | ((with_reducible refine' w_ixL ?h1 ?h2 ?_); (case h1 => walk_at "sq"); (case h2 => walk_at "at"))
  | ((with_reducible refine' w_ixT ?h1 ?h2 ?_); (case h1 => walk_at "sq"); (case h2 => walk_at "at"))
  | ((with_reducible refine' w_ixAny ?h1 ?h2 ?_); (case h1 => walk_at "sq"); (case h2 => walk_at "at"))
  | ((with_reducible refine' c_lenA ?h1 ?_); (case h1 => walk_at "sq"))
  | ((with_reducible refine' c_isi ?t1 ?k1 ?_); (case t1 => first | exact ty_T (by walk_at "sq") | exact ty_L (by walk_at "sq")); (case k1 => walk_at "kit"))
  | ((with_reducible refine' g_lst ?h1 ?h2 ?_); (case h1 => assumption); (case h2 => walk_at "sz"); intro p H2 hh2)
  | ((with_reducible refine' g_tup ?h1 ?h2 ?_); (case h1 => assumption); (case h2 => walk_at "sz"); intro p H2 hh2)
  | ((with_reducible refine' g_dict ?h1 ?_); (case h1 => assumption); intro p H2 hh2)
  | ((with_reducible refine' g_listL ?h1 ?h2 ?_); (case h1 => assumption); (case h2 => walk_at "sq"); intro p H2 hh2)
  | ((with_reducible refine' g_listT ?h1 ?h2 ?_); (case h1 => assumption); (case h2 => walk_at "sq"); intro p H2 hh2)
  | ((with_reducible refine' g_tupL ?h1 ?h2 ?_); (case h1 => assumption); (case h2 => walk_at "sq"); intro p H2 hh2)
  | ((with_reducible refine' g_set ?h1 ?h2 ?h3 ?_); (case h1 => assumption); (case h2 => walk_at "pk"); (case h3 => first | rfl | assumption | exact Evl.ixN_nat (by first | omega | (simp only [List.length_cons, List.length_nil]; omega))); intro H2 hh2)
  | ((with_reducible refine' g_kbm ?h1 ?h2 ?_); (case h1 => assumption); (case h2 => walk_at "mem"))
  | ((with_reducible refine' g_kbm0 ?h1 ?h2 ?_); (case h1 => assumption); (case h2 => walk_at "mem"))
  | ((with_reducible refine' g_app ?h1 ?h2 ?h3 ?_); (case h1 => assumption); (case h2 => walk_at "pk"); (case h3 => walk_at "sz"); intro H2 hh2)
  | ((with_reducible refine' g_kapp ?h1 ?h2 ?h3 ?_); (case h1 => assumption); (case h2 => walk_at "pk"); (case h3 => walk_at "sz"); intro H2 hh2)
  | ((with_reducible refine' g_fld ?h1 ?h2 ?h3 ?h4 ?h5 ?_); (case h1 => assumption); (case h2 => walk_at "mem"); (case h3 => assumption); (case h4 => assumption); (case h5 => rfl))
  | ((with_reducible refine' g_sfld ?h1 ?h2 ?h3 ?h4 ?h5 ?_); (case h1 => assumption); (case h2 => walk_at "pk"); (case h3 => assumption); (case h4 => assumption); (case h5 => decide); intro H2 hh2)
  | ((with_reducible refine' g_meth ?h1 ?h2 ?h3 ?_); (case h1 => assumption); (case h2 => walk_at "mem"); (case h3 => rfl))
  | ((with_reducible refine' g_prop ?h1 ?h2 ?_); (case h1 => assumption); (case h2 => walk_at "mem"))
  | ((with_reducible refine' g_make ?h1 ?_); (case h1 => assumption); intro x H2 hh2)
  | ((with_reducible refine' g_cat ?h1 ?h2 ?h3 ?h4 ?_); (case h1 => assumption); (case h2 => walk_at "mem"); (case h3 => walk_at "mem"); (case h4 => walk_at "sz"); intro p H2 hh2)
  | ((with_reducible refine' g_inT ?h1 ?h2 ?h3 ?h4 ?h5 ?_); (case h1 => assumption); (case h2 => walk_at "mem"); (case h3 => rfl); (case h4 => rfl); (case h5 => rfl)))
local macro_rules | `(tactic| walk_at "gs") => `(tactic| repeat first | walk_at "s1" | walk_at "g1")
local macro_rules | `(tactic| walk_at "ite") => `(tactic| first
  | ((with_reducible refine' w_iteT ?h1 ?_); (case h1 => omega))
  | ((with_reducible refine' w_iteF ?h1 ?_); (case h1 => omega))
  | (with_reducible refine w_ite ?_ ?_ <;> intro hq)
  | ((with_reducible refine' w_iteNT ?h1 ?_); (case h1 => omega))
  | ((with_reducible refine' w_iteNF ?h1 ?_); (case h1 => omega))
  | (with_reducible refine w_iteN ?_ ?_ <;> intro hq))
local macro_rules | `(tactic| walk_at "go") => `(tactic| repeat' first | walk_at "s1" | walk_at "g1" | walk_at "ite")
local macro_rules | `(tactic| walk_at "g1") => `(tactic| first
  | ((with_reducible refine' g_take1 ?h1 ?h2 ?h3 ?h4 ?_); (case h1 => assumption); (case h2 => walk_at "spl"); (case h3 => omega); (case h4 => omega); intro k H2 hk1 hh2)
  | ((with_reducible refine' g_take ?h1 ?h2 ?h4 ?_); (case h1 => assumption); (case h2 => walk_at "spl"); (case h4 => omega); intro k H2 hk1 hh2)
  | ((with_reducible refine' g_betweenN ?h1 ?h2 ?h5 ?h3 ?h4 ?_); (case h1 => assumption); (case h2 => walk_at "spl"); (case h5 => omega); (case h3 => omega); (case h4 => omega); intro k H2 hk1 hk2 hh2)
  | ((with_reducible refine' g_between ?h1 ?h2 ?h3 ?h4 ?_); (case h1 => assumption); (case h2 => walk_at "spl"); (case h3 => omega); (case h4 => omega); intro k H2 hk1 hk2 hh2)
  | ((with_reducible refine' g_size ?h1 ?h2 ?h3 ?h4 ?_); (case h1 => assumption); (case h2 => walk_at "spl"); (case h3 => omega); (case h4 => omega); intro k H2 hk1 hh2)
  | ((with_reducible refine' g_word ?h1 ?h2 ?_); (case h1 => assumption); (case h2 => walk_at "spl"); intro k H2 hk1 hh2))
local macro_rules | `(tactic| walk_at "g1") => `(tactic| first | with_reducible refine w_din ?_ | with_reducible refine w_dnotin ?_ | with_reducible refine w_dget ?_ | with_reducible refine w_dput ?_ | with_reducible refine w_ddel ?_ | with_reducible refine w_dpop ?_)
section
variable {P : Program} {w : World} {K : PySem.W.Frag} {mg : Str → Option Value} {base : Heap} {aREG aOPS : Addr}
/-! ### parts of lists -/
theorem cut_hi {xs : List V} {n : Nat} : cutV xs none (some (n : Int)) = xs.take n := by
  unfold cutV
  rw [show HT.sIx xs.length 0 none = 0 from rfl, List.drop_zero, Nat.sub_zero]
  have e : HT.sIx xs.length xs.length (some (n : Int)) = min n xs.length := by
    show (if (n : Int) < 0 then ((n : Int) + (xs.length : Int)).toNat else min ((n : Int)).toNat xs.length) = min n xs.length
    rw [if_neg (by omega), Int.toNat_natCast]
  rw [e]
  exact List.take_eq_take_min.symm
theorem cut_lo {xs : List V} {n : Nat} : cutV xs (some (n : Int)) none = xs.drop n := by
  unfold cutV
  have e : HT.sIx xs.length 0 (some (n : Int)) = min n xs.length := by
    show (if (n : Int) < 0 then ((n : Int) + (xs.length : Int)).toNat else min ((n : Int)).toNat xs.length) = min n xs.length
    rw [if_neg (by omega), Int.toNat_natCast]
  rw [e, show HT.sIx xs.length xs.length none = xs.length from rfl]
  by_cases h : n ≤ xs.length
  · rw [Nat.min_eq_left h, List.take_of_length_le (by rw [List.length_drop]; exact Nat.le_refl _)]
  · rw [Nat.min_eq_right (by omega), Nat.sub_self, List.take_zero, List.drop_eq_nil_of_le (by omega)]
section
variable {K : PySem.W.Frag} {σ : L2.St} {H : Hp} {Q : VK} {L : List Cell} {a : Addr} {xs : List V} {n : Nat} {r : V → Option Int → Option Int → Hp → VK → Prop} {te t : TE} {tl th : TO} {i : Int} {QO : Option Int → Hp → Prop} {QI : Int → Prop}
theorem w_sl (h : te σ H fun x H1 => tl σ H1 fun l H2 => th σ H2 fun u H3 => r x l u H3 Q) : tSl r te tl th σ H Q := h
theorem w_part (h : t σ H fun x H1 => ∃ i, x = .int i ∧ QO (some i) H1) : tPart t σ H QO := h
theorem w_noPart (h : QO none H) : tNoPart σ H QO := h
theorem w_exI (h : QI i) : ∃ j, V.int i = .int j ∧ QI j := ⟨i, rfl, h⟩
theorem g_slHi (hh : Hd H L) (h : SqL K H a xs) (q : ∀ p H2, Hd H2 (lstC p (xs.take n) :: L) → Q (.ref p) H2) : rSlL K (.ref a) none (some (n : Int)) H Q :=
  ⟨a, xs, rfl, h, fun p hp => q p _ (hh.newL (cut_hi (xs := xs) (n := n) ▸ New.of hp))⟩
theorem g_slLo (hh : Hd H L) (h : SqL K H a xs) (q : ∀ p H2, Hd H2 (lstC p (xs.drop n) :: L) → Q (.ref p) H2) : rSlL K (.ref a) (some (n : Int)) none H Q :=
  ⟨a, xs, rfl, h, fun p hp => q p _ (hh.newL (cut_lo (xs := xs) (n := n) ▸ New.of hp))⟩
end
end
end K23
set_option Elab.async false
set_option linter.all false
set_option maxRecDepth 100000
set_option maxHeartbeats 4000000
namespace K23
open PySem PySem.Spec PyProof.Rows L2 Wk
local macro_rules | `(tactic| walk_at "u1") => `(tactic| fail "no more")
local macro_rules | `(tactic| walk_at "pos") => `(tactic| first | assumption | omega | decide | (simp only [Int.ofNat_eq_natCast] at *; omega))
local macro_rules | `(tactic| walk_at "sz") => `(tactic| first
  | (simp only [List.length_cons, List.length_nil]; decide)
  | exact Evl.sz_of (by omega)
  | exact Evl.sz_lt (by omega)
  | exact Evl.sz_of (by simp only [List.length_map, List.length_append, List.length_cons, List.length_nil, List.length_replicate]; omega)
  | exact Evl.sz_lt (by simp only [List.length_map, List.length_append, List.length_cons, List.length_nil, List.length_replicate]; omega))
local macro_rules | `(tactic| walk_at "cond") => `(tactic| first
  | exact Or.inr ⟨by decide, by decide⟩
  | (show (0 : Int) < _; first | decide | assumption | omega)
  | exact Or.inl ⟨by omega, by omega⟩
  | exact Or.inr ⟨by omega, by omega⟩
  | exact ⟨by decide, by decide, by decide⟩
  | exact log2_lt (by omega) (by omega)
  | exact ⟨by omega, by omega⟩)
local macro_rules | `(tactic| walk_at "ty") => `(tactic| first
  | exact ty_int | exact ty_bl | exact ty_str | exact ty_non
  | exact ty_L (by assumption) | exact ty_T (by assumption)
  | exact ty_L (SqL.of (by assumption)) | exact ty_T (SqT.of (by assumption)))
local macro_rules | `(tactic| walk_at "kit") => `(tactic| first
  | exact k_ii | exact k_ib | exact k_is | exact k_il | exact k_it
  | exact k_bb | exact k_bi | exact k_bs | exact k_bl | exact k_bt
  | exact k_ss | exact k_sb | exact k_si | exact k_sl | exact k_st
  | exact k_ll | exact k_lb | exact k_li | exact k_ls | exact k_lt
  | exact k_tt | exact k_tb | exact k_ti | exact k_ts | exact k_tl
  | exact k_nn | exact k_ni | exact k_ns | exact k_nl | exact k_nt)
local macro_rules | `(tactic| walk_at "s1") => `(tactic| first
  | with_reducible refine w_seq ?_
  | with_reducible refine w_set ?_
  | with_reducible refine w_op ?_
  | ((with_reducible refine' w_var ?h1 ?_); (case h1 => rfl))
  | with_reducible refine w_c ?_
  | with_reducible refine w_cb ?_
  | with_reducible refine w_cons ?_
  | with_reducible refine w_nil ?_
  | with_reducible refine w_I0 ?_
  | ((with_reducible refine' w_I ?c1 ?_); case c1 => walk_at "cond")
  | with_reducible refine w_ret ?_
  | with_reducible refine w_next ?_
  | with_reducible refine w_ifS ?_
  | with_reducible refine w_test ?_
  | with_reducible refine w_tB ?_
  | with_reducible refine w_k ?_
  | with_reducible refine w_eqI ?_
  | with_reducible refine w_neI ?_
  | with_reducible refine w_eqS ?_
  | with_reducible refine w_neS ?_
  | with_reducible refine w_and ?_
  | with_reducible refine w_or ?_
  | with_reducible refine w_not ?_
  | with_reducible refine w_andV ?_
  | with_reducible refine w_orV ?_
  | with_reducible refine w_notV ?_
  | with_reducible refine w_ifE ?_
  | with_reducible refine w_true ?_
  | with_reducible refine w_false ?_
  | with_reducible refine w_ntrue ?_
  | with_reducible refine w_nfalse ?_
  | with_reducible refine w_call ?_
  | with_reducible refine c_int ?_
  | with_reducible refine c_abs ?_
  | with_reducible refine c_max ?_
  | with_reducible refine c_min ?_
  | with_reducible refine w_drop ?_
  | with_reducible refine w_sfld ?_
  | with_reducible refine w_meth ?_
  | with_reducible refine w_make ?_
  | with_reducible refine w_prop ?_
  | with_reducible refine w_callK ?_
  | with_reducible refine w_callN ?_
  | with_reducible refine w_star ?_
  | with_reducible refine w_gcons ?_
  | with_reducible refine w_gname ?_
  | with_reducible refine w_gnil ?_
  | with_reducible refine w_retN ?_
  | with_reducible refine w_tup ?_
  | with_reducible refine w_lst ?_
  | with_reducible refine w_fld ?_
  | with_reducible refine w_bm ?_
  | with_reducible refine w_bm0 ?_
  | with_reducible refine w_forL ?_
  | with_reducible refine w_forT ?_
  | with_reducible refine w_forS ?_
  | with_reducible refine w_forR ?_
  | with_reducible refine w_lcR ?_
  | with_reducible refine w_lcL ?_
  | with_reducible refine w_lcT ?_
  | with_reducible refine w_isN ?_
  | with_reducible refine w_notN ?_
  | with_reducible refine w_asg ?_
  | with_reducible refine w_gsub ?_
  | ((with_reducible refine' w_aug ?h1 ?_); (case h1 => rfl))
  | with_reducible refine w_augS ?_
  | with_reducible refine w_ipI ?_
  | with_reducible refine w_un ?_
  | with_reducible refine w_U ?_
  | ((with_reducible refine' w_iteF ?f1 ?_); case f1 => (first | (intro h; cases h; done) | decide))
  | ((with_reducible refine' w_iteT ?f1 ?_); case f1 => rfl)
  | ((with_reducible refine' w_iteNF ?f1 ?_); case f1 => rfl)
  | ((with_reducible refine' w_iteNT ?f1 ?_); case f1 => (first | (intro h; cases h; done) | decide))
  | ((with_reducible refine' c_isi ?t1 ?k1 ?_); (case t1 => walk_at "ty"); (case k1 => walk_at "kit"))
  | ((with_reducible refine' w_eq ?e1 ?_); case e1 => rfl)
  | ((with_reducible refine' w_ne ?e1 ?_); case e1 => rfl)
  | walk_at "u1")
local macro_rules | `(tactic| walk_at "s") => `(tactic| repeat walk_at "s1")
local macro_rules | `(tactic| walk_at "mem") => `(tactic| first | with_reducible exact List.mem_cons_self .. | ((with_reducible refine' List.mem_cons_of_mem _ ?q); (case q => walk_at "mem")) | assumption | ((with_reducible refine' List.mem_append_right _ ?q); (case q => walk_at "mem")) | (exact List.mem_append_left _ (by assumption)))
local macro_rules | `(tactic| walk_at "pk") => `(tactic| first | with_reducible exact Pk.here | ((with_reducible refine' Pk.there ?q); (case q => walk_at "pk")) | ((with_reducible refine' Pk.app ?q); (case q => walk_at "pk")))
local macro_rules | `(tactic| walk_at "pkb") => `(tactic| first | with_reducible exact PkB.here | ((with_reducible refine' PkB.there ?q); (case q => walk_at "pkb")) | ((with_reducible refine' PkB.app ?q); (case q => walk_at "pkb")))
local macro_rules | `(tactic| walk_at "spl") => `(tactic| first | with_reducible exact Spl.nil | ((with_reducible refine' Spl.cons ?h ?t); (case h => walk_at "pk"); (case t => walk_at "spl")) | ((with_reducible refine' Spl.blk ?h ?t); (case h => walk_at "pkb"); (case t => walk_at "spl")))
local macro_rules | `(tactic| walk_at "sbx") => `(tactic| first | with_reducible exact Sb.refl | with_reducible exact Sb.nil | with_reducible exact Sb.left | ((with_reducible refine' Sb.cons ?h ?t); (case h => walk_at "pk"); (case t => walk_at "sbx")) | ((with_reducible refine' Sb.blk ?h ?t); (case h => walk_at "pkb"); (case t => walk_at "sbx")) | ((with_reducible refine' Sb.drop ?q); (case q => walk_at "sbx")) | ((with_reducible refine' Sb.right ?q); (case q => walk_at "sbx")))
local macro_rules | `(tactic| walk_at "hd") => `(tactic| first | assumption | exact Hd.sb (by assumption) (by walk_at "sbx"))
local macro_rules | `(tactic| walk_at "sq") => `(tactic| first
  | assumption
  | exact Hd.sqL (by assumption) (by walk_at "mem")
  | exact Hd.sqT (by assumption) (by walk_at "mem")
  | exact Hd.sqF (by assumption) (by walk_at "mem")
  | (refine .inl ?_; walk_at "sq")
  | (refine .inr ?_; walk_at "sq"))
local macro_rules | `(tactic| walk_at "at") => `(tactic| first | rfl | assumption | exact atI_nat (by assumption))
local macro_rules | `(tactic| walk_at "dn1") => `(tactic| first
  | exact Dn.int | exact Dn.str | exact Dn.non | exact Dn.bl | assumption
  | ((refine' Dn.tp ?a1 ?m1 ?l1 ?p1); (case a1 => assumption); (case m1 => walk_at "mem"); (case l1 => (simp only [List.length_cons, List.length_nil]; omega)); (case p1 => walk_at "dns"))
  | ((refine' Dn.lt ?a1 ?m1 ?l1 ?p1); (case a1 => assumption); (case m1 => walk_at "mem"); (case l1 => (simp only [List.length_cons, List.length_nil]; omega)); (case p1 => walk_at "dns")))
local macro_rules | `(tactic| walk_at "dns") => `(tactic| first | exact Paired.nil | exact Dn.ints | ((refine' Paired.cons ?a1 ?b1); (case a1 => walk_at "dn1"); (case b1 => walk_at "dns")))
local macro_rules | `(tactic| walk_at "g1") => `(tactic| first
  | ((with_reducible refine' g_ixI ?h1 ?h2 ?h3 ?_); (case h1 => assumption); (case h2 => walk_at "mem"); (case h3 => omega); intro z hz)
  | ((with_reducible refine' g_ixIT ?h1 ?h2 ?h3 ?_); (case h1 => assumption); (case h2 => walk_at "mem"); (case h3 => omega); intro z hz)
  | ((with_reducible refine' g_setI ?h1 ?h2 ?h3 ?_); (case h1 => assumption); (case h2 => walk_at "pk"); (case h3 => omega); intro H2 hh2)
  | ((with_reducible refine' w_ixL ?h1 ?h2 ?_); (case h1 => walk_at "sq"); (case h2 => walk_at "at"))
  | ((with_reducible refine' w_ixT ?h1 ?h2 ?_); (case h1 => walk_at "sq"); (case h2 => walk_at "at"))
  | ((with_reducible refine' w_ixAny ?h1 ?h2 ?_); (case h1 => walk_at "sq"); (case h2 => walk_at "at"))
  | ((with_reducible refine' c_lenA ?h1 ?_); (case h1 => walk_at "sq"))
  | ((with_reducible refine' c_isi ?t1 ?k1 ?_); (case t1 => first | exact ty_T (by walk_at "sq") | exact ty_L (by walk_at "sq")); (case k1 => walk_at "kit"))
  | ((with_reducible refine' g_lst ?h1 ?h2 ?_); (case h1 => assumption); (case h2 => walk_at "sz"); intro p H2 hh2)
  | ((with_reducible refine' g_tup ?h1 ?h2 ?_); (case h1 => assumption); (case h2 => walk_at "sz"); intro p H2 hh2)
  | ((with_reducible refine' g_dict ?h1 ?_); (case h1 => assumption); intro p H2 hh2)
  | ((with_reducible refine' g_listL ?h1 ?h2 ?_); (case h1 => assumption); (case h2 => walk_at "sq"); intro p H2 hh2)
  | ((with_reducible refine' g_listT ?h1 ?h2 ?_); (case h1 => assumption); (case h2 => walk_at "sq"); intro p H2 hh2)
  | ((with_reducible refine' g_tupL ?h1 ?h2 ?_); (case h1 => assumption); (case h2 => walk_at "sq"); intro p H2 hh2)
  | ((with_reducible refine' g_set ?h1 ?h2 ?h3 ?_); (case h1 => assumption); (case h2 => walk_at "pk"); (case h3 => first | rfl | assumption | exact Evl.ixN_nat (by first | omega | (simp only [List.length_cons, List.length_nil]; omega))); intro H2 hh2)
  | ((with_reducible refine' g_kbm ?h1 ?h2 ?_); (case h1 => assumption); (case h2 => walk_at "mem"))
  | ((with_reducible refine' g_kbm0 ?h1 ?h2 ?_); (case h1 => assumption); (case h2 => walk_at "mem"))
  | ((with_reducible refine' g_app ?h1 ?h2 ?h3 ?_); (case h1 => assumption); (case h2 => walk_at "pk"); (case h3 => walk_at "sz"); intro H2 hh2)
  | ((with_reducible refine' g_kapp ?h1 ?h2 ?h3 ?_); (case h1 => assumption); (case h2 => walk_at "pk"); (case h3 => walk_at "sz"); intro H2 hh2)
  | ((with_reducible refine' g_fld ?h1 ?h2 ?h3 ?h4 ?h5 ?_); (case h1 => assumption); (case h2 => walk_at "mem"); (case h3 => assumption); (case h4 => assumption); (case h5 => rfl))
  | ((with_reducible refine' g_sfld ?h1 ?h2 ?h3 ?h4 ?h5 ?_); (case h1 => assumption); (case h2 => walk_at "pk"); (case h3 => assumption); (case h4 => assumption); (case h5 => decide); intro H2 hh2)
  | ((with_reducible refine' g_meth ?h1 ?h2 ?h3 ?_); (case h1 => assumption); (case h2 => walk_at "mem"); (case h3 => rfl))
  | ((with_reducible refine' g_prop ?h1 ?h2 ?_); (case h1 => assumption); (case h2 => walk_at "mem"))
  | ((with_reducible refine' g_make ?h1 ?_); (case h1 => assumption); intro x H2 hh2)
  | ((with_reducible refine' g_cat ?h1 ?h2 ?h3 ?h4 ?_); (case h1 => assumption); (case h2 => walk_at "mem"); (case h3 => walk_at "mem"); (case h4 => walk_at "sz"); intro p H2 hh2)
  | ((with_reducible refine' g_inT ?h1 ?h2 ?h3 ?h4 ?h5 ?_); (case h1 => assumption); (case h2 => walk_at "mem"); (case h3 => rfl); (case h4 => rfl); (case h5 => rfl)))
local macro_rules | `(tactic| walk_at "gs") => `(tactic| repeat first | walk_at "s1" | walk_at "g1")
local macro_rules | `(tactic| walk_at "ite") => `(tactic| first
  | ((with_reducible refine' w_iteT ?h1 ?_); (case h1 => omega))
  | ((with_reducible refine' w_iteF ?h1 ?_); (case h1 => omega))
  | (with_reducible refine w_ite ?_ ?_ <;> intro hq)
  | ((with_reducible refine' w_iteNT ?h1 ?_); (case h1 => omega))
  | ((with_reducible refine' w_iteNF ?h1 ?_); (case h1 => omega))
  | (with_reducible refine w_iteN ?_ ?_ <;> intro hq))
local macro_rules | `(tactic| walk_at "go") => `(tactic| repeat' first | walk_at "s1" | walk_at "g1" | walk_at "ite")
local macro_rules | `(tactic| walk_at "g1") => `(tactic| first | with_reducible refine w_din ?_ | with_reducible refine w_dnotin ?_ | with_reducible refine w_dget ?_ | with_reducible refine w_dput ?_ | with_reducible refine w_ddel ?_ | with_reducible refine w_dpop ?_)
section
variable {P : Program} {w : World} {K : PySem.W.Frag} {mg : Str → Option Value} {base : Heap} {aREG aOPS : Addr}
local macro_rules | `(tactic| walk_at "g1") => `(tactic| first | with_reducible refine w_din ?_ | with_reducible refine w_dnotin ?_ | with_reducible refine w_dget ?_ | with_reducible refine w_dput ?_ | with_reducible refine w_ddel ?_ | with_reducible refine w_dpop ?_)
theorem hdCast {c c' : Cell} {L : List Cell} {H : Hp} (h : Hd H (c :: L)) (e : c = c') : Hd H (c' :: L) := e ▸ h
/-- a member: its base and lent priority, whether it is ready, its age -/
structure Mb where
  base : Nat
  lent : Nat
  ready : Bool
  age : Nat
abbrev mbV (m : Mb) : List V := [.int m.base, .int m.lent, .bl m.ready, .int m.age]
abbrev AgS := Nat → Option Mb
structure AgC (K : PySem.W.Frag) (C : Addr) : Prop where
  cl : Cls K C
  nm : NoAttr K C "_members"
abbrev agI (o C d : Addr) : Cell := insC o C [("_members", .ref d)]
/-- the object at o has the members S; it is the block Z -/
def AgB (C o : Addr) (S : AgS) (Z : List Cell) : Prop := ∃ d Z1, TabB mbV 8 d S Z1 ∧ Z = agI o C d :: Z1
section
variable {C : Addr}
theorem AgB.ins {o : Addr} {S : AgS} {Z : List Cell} (b : AgB C o S Z) : ∃ fs, insC o C fs ∈ Z ∧ fs.length = 1 := by
  obtain ⟨d, Z1, _, rfl⟩ := b
  exact ⟨_, List.mem_cons_self .., rfl⟩
/-- one member, to be read or changed -/
theorem AgB.open {o : Addr} {S : AgS} {Z : List Cell} {k : Nat} {m : Mb} (b : AgB C o S Z) (h : S k = some m) : ∃ (d ad : Addr) (kv : List (Key × V)) (X : List Cell), valV kv (.inl (k : Int)) = some (.ref ad) ∧ (∀ H R, Hd H (Z ++ R) ↔ Hd H (agI o C d :: dctC d kv :: lstC ad (mbV m) :: (X ++ R))) ∧
    ∀ m', ∃ Z', AgB C o (upS S k (some m')) Z' ∧ ∀ H R, Hd H (agI o C d :: dctC d kv :: lstC ad (mbV m') :: (X ++ R)) → Hd H (Z' ++ R) := by
  obtain ⟨d, Z1, tb, rfl⟩ := b
  obtain ⟨ad, kv, X, hv, op, cl⟩ := tb.open h
  have e1 : ∀ H R, Hd H (agI o C d :: Z1 ++ R) ↔ Hd H (Z1 ++ (agI o C d :: R)) := fun H R => ⟨fun h => h.perm List.perm_middle.symm, fun h => h.perm List.perm_middle⟩
  have e2 : ∀ (H : Hp) (x : List V) R, Hd H (dctC d kv :: lstC ad x :: (X ++ (agI o C d :: R))) ↔ Hd H (agI o C d :: dctC d kv :: lstC ad x :: (X ++ R)) := fun H x R => by
    have p : (dctC d kv :: lstC ad x :: (X ++ (agI o C d :: R))).Perm (agI o C d :: dctC d kv :: lstC ad x :: (X ++ R)) := List.perm_middle (l₁ := dctC d kv :: lstC ad x :: X)
    exact ⟨fun h => h.perm p, fun h => h.perm p.symm⟩
  refine ⟨d, ad, kv, X, hv, fun H R => ?_, fun m' => ?_⟩
  · rw [e1, op, e2]
  · obtain ⟨Z', tb', cl'⟩ := cl m'
    refine ⟨agI o C d :: Z', ⟨d, Z', tb', rfl⟩, fun H R hh => ?_⟩
    exact (cl' H _ ((e2 H _ R).mpr hh)).perm List.perm_middle
def sp_agI (C : Addr) : Sp := fun vs H Q _ => ∃ (o : Addr) (R : List Cell), vs = [.ref o] ∧ Hd H (insC o C [] :: R) ∧ ∀ Z H', AgB C o (fun _ => none) Z → Hd H' (Z ++ R) → Q .non H'
theorem c_agI {f : Addr} {fd : FuncData} (T : Txt K mg aREG aOPS) (L : AgC K C) (d : DefM K "__init__" "Ages.__init__" s_Ages____init__ [] f fd) (M : Mk K C f) (hm : mg "Ages" = some (.ref C)) : C8.Mak P w K mg base 1 "Ages" C (sp_agI C) [] := by
  refine mkI (dvs' := []) d M hm sc_Ages____init__ ⟨[], .nil, FunD.bindsN (show FunD K "__init__" "Ages.__init__" (defArgs s_Ages____init__) (defBody s_Ages____init__) (defScope s_Ages____init__) [] [] f fd from d) fun _ _ _ _ _ _ us hl => match us, hl with | [_], _ => rfl⟩ (fun vs H Q E h => ?_) (fun f cdv A outer s H vs Q E hr h => ?_)
  · obtain ⟨o, R, rfl, _⟩ := h
    rfl
  · obtain ⟨o, R, rfl, hh, q⟩ := h
    refine ⟨_, (pss_one (ps_fld (pv 0) pe_dnewK rfl)), ?_⟩
    have hc := L.cl
    have nm := L.nm
    walk_at "gs"
    rename_i dd _ _ H2 h2
    exact q (agI o C dd :: [dctC dd []]) H2 ⟨dd, [dctC dd []], TabB.nil 8 dd, rfl⟩ h2
def sp_askM (C : Addr) : Sp := fun vs H Q _ => ∃ (o : Addr) (k : Nat) (m : Mb) (S : AgS) (Z R : List Cell), vs = [.ref o, .int k] ∧ AgB C o S Z ∧ S k = some m ∧ Hd H (Z ++ R) ∧ Q .non H
theorem c_askM (T : Txt K mg aREG aOPS) (L : AgC K C) (d : MetAt K C "_ask_member" "Ages._ask_member" s_Ages___ask_member) (c_ask_range : C8.Cal P w K mg base 3 "ask_range" (sp_ask K) []) : C8.Met P w K mg base 4 C "_ask_member" (sp_askM C) [] := by
  refine mkM d sc_Ages___ask_member (fun _ _ _ _ _ _ us hl => match us, hl with | [_, _], _ => rfl) (fun vs H Q E h => ?_) (fun fa cdv A outer s H vs Q E hr h => ?_)
  · obtain ⟨o, k, m, S, Z, R, rfl, _⟩ := h
    rfl
  · obtain ⟨o, k, m, S, Z, R, rfl, hb, hk, hh, q⟩ := h
    have hu : (A.deeper (envOfC "Ages._ask_member" (defScope s_Ages___ask_member) s.heap.objs.size fa cdv)).units + 1 < cLine := by have := hr.un; omega
    refine ⟨_, (pss_cons (ps_expr (C8.pe_c c_ask_range hr (by first | decide | omega) rfl (pa_cons pe_str (pa_cons (pv 1) (pa_cons pe_int (pa_cons pe_int pa_nil))))))
  (pss_one (ps_if (pt_cmp (pc_dnotin hu (pv 1) (pe_fld (pv 0) rfl)))
    (pss_one ps_never)
    pss_nil))), ?_⟩
    have hc := L.cl
    have nm := L.nm
    obtain ⟨d, ad, kv, X, hv, op, cl⟩ := hb.open hk
    have hlt : k < 8 := by
      obtain ⟨d, Z1, tb, _⟩ := hb
      exact tb.lt (by rw [hk]; rfl)
    have h1 := (op _ _).mp hh
    walk_at "gs"
    refine u_ask ⟨by omega, by omega⟩ ?_
    walk_at "gs"
    refine g_dnotin (k := .inl (k : Int)) h1 (by walk_at "mem") rfl (b := true) (by rw [hv]; rfl) ?_
    walk_at "gs"
    exact q
/-- the greater priority; with the age -/
def effI (m : Mb) : Int := if (m.lent : Int) > (m.base : Int) then (m.lent : Int) else (m.base : Int)
def stdI (m : Mb) : Int := effI m + m.age
def sp_mbI (C : Addr) (f : Mb → Int) : Sp := fun vs H Q _ => ∃ (o : Addr) (k : Nat) (m : Mb) (S : AgS) (Z R : List Cell), vs = [.ref o, .int k] ∧ AgB C o S Z ∧ S k = some m ∧ Hd H (Z ++ R) ∧ Q (.int (f m)) H
theorem g_mbI {f : Mb → Int} {o : Addr} {k : Nat} {m : Mb} {S : AgS} {Z R : List Cell} {H : Hp} {Q : VK} {E : XK} (b : AgB C o S Z) (h : S k = some m) (hh : Hd H (Z ++ R)) (q : Q (.int (f m)) H) : sp_mbI C f [.ref o, .int k] H Q E := ⟨o, k, m, S, Z, R, rfl, b, h, hh, q⟩
theorem c_eff (T : Txt K mg aREG aOPS) (L : AgC K C) (d : MetAt K C "_effective" "Ages._effective" s_Ages___effective) : C8.Met P w K mg base 1 C "_effective" (sp_mbI C effI) [] := by
  refine mkM d sc_Ages___effective (fun _ _ _ _ _ _ us hl => match us, hl with | [_, _], _ => rfl) (fun vs H Q E h => ?_) (fun fa cdv A outer s H vs Q E hr h => ?_)
  · obtain ⟨o, k, m, S, Z, R, rfl, _⟩ := h
    rfl
  · obtain ⟨o, k, m, S, Z, R, rfl, hb, hk, hh, q⟩ := h
    have hu : (A.deeper (envOfC "Ages._effective" (defScope s_Ages___effective) s.heap.objs.size fa cdv)).units + 1 < cLine := by have := hr.un; omega
    refine ⟨_, (pss_one (ps_ret (pe_callB (Wk.b_max rfl) (by rfl) T.b_max (by decide +kernel) (pa_cons (pe_ix ix_list (pe_dget hu (pe_fld (pv 0) rfl) (pv 1) (fun _ _ => rfl)) pe_int (fun _ _ => rfl)) (pa_cons (pe_ix ix_list (pe_dget hu (pe_fld (pv 0) rfl) (pv 1) (fun _ _ => rfl)) pe_int (fun _ _ => rfl)) pa_nil))))), ?_⟩
    have hc := L.cl
    have nm := L.nm
    obtain ⟨d, ad, kv, X, hv, op, cl⟩ := hb.open hk
    have h1 := (op _ _).mp hh
    walk_at "gs"
    refine g_dget (k := .inl (k : Int)) h1 (by walk_at "mem") rfl hv ?_
    walk_at "gs"
    refine g_dget (k := .inl (k : Int)) h1 (by walk_at "mem") rfl hv ?_
    walk_at "gs"
    exact q
theorem b_std (T : Txt K mg aREG aOPS) (L : AgC K C) (c_Ages__effective : C8.Met P w K mg base 1 C "_effective" (sp_mbI C effI) []) (fa : Addr) (cdv : Value) (A : Around) (outer : List Env) (s : Shared) (H : Hp) (vs : List V) (Q : VK) (E : XK) (hr : Room 2 (A.deeper (envOfC "Ages._standing" (defScope s_Ages___standing) s.heap.objs.size fa cdv))) (h : sp_mbI C stdI vs H Q E) :
    ∃ t, PSs (cxOf C8.CX0 P w K mg base nm_Ages___standing "Ages._standing" (defScope s_Ages___standing) fa cdv A outer s H E).nox (defBody s_Ages___standing) t ∧ t { nx := fun _ H' => Q .non H', rt := Q } (L2.start nm_Ages___standing vs) H := by
  · obtain ⟨o, k, m, S, Z, R, rfl, hb, hk, hh, q⟩ := h
    have hu : (A.deeper (envOfC "Ages._standing" (defScope s_Ages___standing) s.heap.objs.size fa cdv)).units + 1 < cLine := by have := hr.un; omega
    refine ⟨_, (pss_one (ps_ret (pe_op op_add (C8.pe_mt c_Ages__effective hr (by first | decide | omega) (pv 0) (pa_cons (pv 1) pa_nil)) (pe_ix ix_list (pe_dget hu (pe_fld (pv 0) rfl) (pv 1) (fun _ _ => rfl)) pe_int (fun _ _ => rfl))))), ?_⟩
    have hc := L.cl
    have nm := L.nm
    obtain ⟨d, ad, kv, X, hv, op, cl⟩ := hb.open hk
    have h1 := (op _ _).mp hh
    walk_at "gs"
    refine g_mbI hb hk hh ?_
    walk_at "gs"
    refine g_dget (k := .inl (k : Int)) h1 (by walk_at "mem") rfl hv ?_
    walk_at "gs"
    exact q
theorem f_std {g : Addr} {fd : FuncData} (T : Txt K mg aREG aOPS) (L : AgC K C) (F : DefM K "_standing" "Ages._standing" s_Ages___standing [] g fd) (c_Ages__effective : C8.Met P w K mg base 1 C "_effective" (sp_mbI C effI) []) : FnR P w K mg base C8.CX0 3 g (sp_mbI C stdI) := by
  have F : FunD K "_standing" "Ages._standing" (defArgs s_Ages___standing) (defBody s_Ages___standing) (defScope s_Ages___standing) [] [] g fd := F
  have FO : FnOk P w K mg base C8.CX0 3 g fd ["self", "pid"] (sp_mbI C stdI) := F.ok sc_Ages___standing (fun vs H Q E h => by obtain ⟨o, k, m, S, Z, R, rfl, _⟩ := h; rfl) fun cdv A outer s H vs Q E hr hsp => let ⟨t, h, q⟩ := b_std T L c_Ages__effective g cdv A outer s H vs Q E hr hsp; ⟨t, h.nox, q⟩
  have b : Binds K fd ["self", "pid"] [] := FunD.bindsN F fun _ _ _ _ _ _ us hl => match us, hl with | [_, _], _ => rfl
  exact (FO.raw b .nil).imp fun vs H Q E h => by rw [List.append_nil]; exact h
theorem c_prio (T : Txt K mg aREG aOPS) (L : AgC K C) (d : MetAt K C "priority" "Ages.priority" s_Ages__priority) (c_Ages__ask_member : C8.Met P w K mg base 4 C "_ask_member" (sp_askM C) []) (c_Ages__effective : C8.Met P w K mg base 1 C "_effective" (sp_mbI C effI) []) : C8.Met P w K mg base 5 C "priority" (sp_mbI C effI) [] := by
  refine mkM d sc_Ages__priority (fun _ _ _ _ _ _ us hl => match us, hl with | [_, _], _ => rfl) (fun vs H Q E h => ?_) (fun fa cdv A outer s H vs Q E hr h => ?_)
  · obtain ⟨o, k, m, S, Z, R, rfl, _⟩ := h
    rfl
  · obtain ⟨o, k, m, S, Z, R, rfl, hb, hk, hh, q⟩ := h
    refine ⟨_, (pss_cons (ps_expr (C8.pe_mt c_Ages__ask_member hr (by first | decide | omega) (pv 0) (pa_cons (pv 1) pa_nil)))
  (pss_one (ps_ret (C8.pe_mt c_Ages__effective hr (by first | decide | omega) (pv 0) (pa_cons (pv 1) pa_nil))))), ?_⟩
    obtain ⟨d, ad, kv, X, hv, op, cl⟩ := hb.open hk
    have h1 := (op _ _).mp hh
    walk_at "gs"
    refine ⟨o, k, m, S, Z, R, rfl, hb, hk, hh, ?_⟩
    walk_at "gs"
    exact g_mbI hb hk hh q
theorem c_age (T : Txt K mg aREG aOPS) (L : AgC K C) (d : MetAt K C "age" "Ages.age" s_Ages__age) (c_Ages__ask_member : C8.Met P w K mg base 4 C "_ask_member" (sp_askM C) []) : C8.Met P w K mg base 5 C "age" (sp_mbI C fun m => m.age) [] := by
  refine mkM d sc_Ages__age (fun _ _ _ _ _ _ us hl => match us, hl with | [_, _], _ => rfl) (fun vs H Q E h => ?_) (fun fa cdv A outer s H vs Q E hr h => ?_)
  · obtain ⟨o, k, m, S, Z, R, rfl, _⟩ := h
    rfl
  · obtain ⟨o, k, m, S, Z, R, rfl, hb, hk, hh, q⟩ := h
    have hu : (A.deeper (envOfC "Ages.age" (defScope s_Ages__age) s.heap.objs.size fa cdv)).units + 1 < cLine := by have := hr.un; omega
    refine ⟨_, (pss_cons (ps_expr (C8.pe_mt c_Ages__ask_member hr (by first | decide | omega) (pv 0) (pa_cons (pv 1) pa_nil)))
  (pss_one (ps_ret (pe_ix ix_list (pe_dget hu (pe_fld (pv 0) rfl) (pv 1) (fun _ _ => rfl)) pe_int (fun _ _ => rfl))))), ?_⟩
    have hc := L.cl
    have nm := L.nm
    obtain ⟨d, ad, kv, X, hv, op, cl⟩ := hb.open hk
    have h1 := (op _ _).mp hh
    walk_at "gs"
    refine ⟨o, k, m, S, Z, R, rfl, hb, hk, hh, ?_⟩
    walk_at "gs"
    refine g_dget (k := .inl (k : Int)) h1 (by walk_at "mem") rfl hv ?_
    walk_at "gs"
    exact q
/-! ### deeds -/
def sp_deed (C : Addr) (f : Mb → Mb) : Sp := fun vs H Q _ => ∃ (o : Addr) (k : Nat) (m : Mb) (S : AgS) (Z R : List Cell), vs = [.ref o, .int k] ∧ AgB C o S Z ∧ S k = some m ∧ Hd H (Z ++ R) ∧ ∀ Z' H', AgB C o (upS S k (some (f m))) Z' → Hd H' (Z' ++ R) → Q .non H'
def wakeM (m : Mb) : Mb := { m with ready := true }
def sleepM (m : Mb) : Mb := { m with ready := false, age := 0 }
theorem c_wake (T : Txt K mg aREG aOPS) (L : AgC K C) (d : MetAt K C "wake" "Ages.wake" s_Ages__wake) (c_Ages__ask_member : C8.Met P w K mg base 4 C "_ask_member" (sp_askM C) []) : C8.Met P w K mg base 5 C "wake" (sp_deed C wakeM) [] := by
  refine mkM d sc_Ages__wake (fun _ _ _ _ _ _ us hl => match us, hl with | [_, _], _ => rfl) (fun vs H Q E h => ?_) (fun fa cdv A outer s H vs Q E hr h => ?_)
  · obtain ⟨o, k, m, S, Z, R, rfl, _⟩ := h
    rfl
  · obtain ⟨o, k, m, S, Z, R, rfl, hb, hk, hh, q⟩ := h
    have hu : (A.deeper (envOfC "Ages.wake" (defScope s_Ages__wake) s.heap.objs.size fa cdv)).units + 1 < cLine := by have := hr.un; omega
    refine ⟨_, (pss_cons (ps_expr (C8.pe_mt c_Ages__ask_member hr (by first | decide | omega) (pv 0) (pa_cons (pv 1) pa_nil)))
  (pss_one (ps_asg pe_bl (pg_sub (pe_dget hu (pe_fld (pv 0) rfl) (pv 1) (fun _ _ => rfl)) pe_int set_list)))), ?_⟩
    have hc := L.cl
    have nm := L.nm
    obtain ⟨d, ad, kv, X, hv, op, cl⟩ := hb.open hk
    have h1 := (op _ _).mp hh
    walk_at "gs"
    refine ⟨o, k, m, S, Z, R, rfl, hb, hk, hh, ?_⟩
    walk_at "gs"
    refine g_dget (k := .inl (k : Int)) h1 (by walk_at "mem") rfl hv ?_
    walk_at "gs"
    rename_i H2 h2
    obtain ⟨Z', hb', cl'⟩ := cl (wakeM m)
    exact q Z' H2 hb' (cl' _ _ (Hd.sb (hdCast (c' := lstC ad (mbV (wakeM m))) h2 rfl) (by walk_at "sbx")))
theorem c_sleep (T : Txt K mg aREG aOPS) (L : AgC K C) (d : MetAt K C "sleep" "Ages.sleep" s_Ages__sleep) (c_Ages__ask_member : C8.Met P w K mg base 4 C "_ask_member" (sp_askM C) []) : C8.Met P w K mg base 5 C "sleep" (sp_deed C sleepM) [] := by
  refine mkM d sc_Ages__sleep (fun _ _ _ _ _ _ us hl => match us, hl with | [_, _], _ => rfl) (fun vs H Q E h => ?_) (fun fa cdv A outer s H vs Q E hr h => ?_)
  · obtain ⟨o, k, m, S, Z, R, rfl, _⟩ := h
    rfl
  · obtain ⟨o, k, m, S, Z, R, rfl, hb, hk, hh, q⟩ := h
    have hu : (A.deeper (envOfC "Ages.sleep" (defScope s_Ages__sleep) s.heap.objs.size fa cdv)).units + 1 < cLine := by have := hr.un; omega
    refine ⟨_, (pss_cons (ps_expr (C8.pe_mt c_Ages__ask_member hr (by first | decide | omega) (pv 0) (pa_cons (pv 1) pa_nil)))
  (pss_cons (ps_asg pe_bl (pg_sub (pe_dget hu (pe_fld (pv 0) rfl) (pv 1) (fun _ _ => rfl)) pe_int set_list))
  (pss_one (ps_asg pe_int (pg_sub (pe_dget hu (pe_fld (pv 0) rfl) (pv 1) (fun _ _ => rfl)) pe_int set_list))))), ?_⟩
    have hc := L.cl
    have nm := L.nm
    obtain ⟨d, ad, kv, X, hv, op, cl⟩ := hb.open hk
    have h1 := (op _ _).mp hh
    walk_at "gs"
    refine ⟨o, k, m, S, Z, R, rfl, hb, hk, hh, ?_⟩
    walk_at "gs"
    refine g_dget (k := .inl (k : Int)) h1 (by walk_at "mem") rfl hv ?_
    walk_at "gs"
    rename_i H2 h2
    refine g_dget (k := .inl (k : Int)) h2 (by walk_at "mem") rfl hv ?_
    walk_at "gs"
    rename_i H3 h3
    obtain ⟨Z', hb', cl'⟩ := cl (sleepM m)
    exact q Z' H3 hb' (cl' _ _ (Hd.sb (hdCast (c' := lstC ad (mbV (sleepM m))) h3 rfl) (by walk_at "sbx")))
def sp_lend (C : Addr) : Sp := fun vs H Q _ => ∃ (o : Addr) (k p : Nat) (m : Mb) (S : AgS) (Z R : List Cell), vs = [.ref o, .int k, .int p] ∧ p ≤ 7 ∧ AgB C o S Z ∧ S k = some m ∧ Hd H (Z ++ R) ∧ ∀ Z' H', AgB C o (upS S k (some { m with lent := p })) Z' → Hd H' (Z' ++ R) → Q .non H'
theorem AgB.lt {o : Addr} {S : AgS} {Z : List Cell} {k : Nat} {m : Mb} (b : AgB C o S Z) (h : S k = some m) : k < 8 := by
  obtain ⟨d, Z1, tb, _⟩ := b
  exact tb.lt (by rw [h]; rfl)
theorem b_lend (T : Txt K mg aREG aOPS) (L : AgC K C) (c_ask_range : C8.Cal P w K mg base 3 "ask_range" (sp_ask K) []) (c_Ages__ask_member : C8.Met P w K mg base 4 C "_ask_member" (sp_askM C) []) (fa : Addr) (cdv : Value) (A : Around) (outer : List Env) (s : Shared) (H : Hp) (vs : List V) (Q : VK) (E : XK) (hr : Room 4 (A.deeper (envOfC "Ages.lend" (defScope s_Ages__lend) s.heap.objs.size fa cdv))) (h : sp_lend C vs H Q E) :
    ∃ t, PSs (cxOf C8.CX0 P w K mg base nm_Ages__lend "Ages.lend" (defScope s_Ages__lend) fa cdv A outer s H E).nox (defBody s_Ages__lend) t ∧ t { nx := fun _ H' => Q .non H', rt := Q } (L2.start nm_Ages__lend vs) H := by
  · obtain ⟨o, k, p, m, S, Z, R, rfl, hp, hb, hk, hh, q⟩ := h
    have hu : (A.deeper (envOfC "Ages.lend" (defScope s_Ages__lend) s.heap.objs.size fa cdv)).units + 1 < cLine := by have := hr.un; omega
    refine ⟨_, (pss_cons (ps_expr (C8.pe_c c_ask_range hr (by first | decide | omega) rfl (pa_cons pe_str (pa_cons (pv 1) (pa_cons pe_int (pa_cons pe_int pa_nil))))))
  (pss_cons (ps_expr (C8.pe_c c_ask_range hr (by first | decide | omega) rfl (pa_cons pe_str (pa_cons (pv 2) (pa_cons pe_int (pa_cons pe_int pa_nil))))))
  (pss_cons (ps_expr (C8.pe_mt c_Ages__ask_member hr (by first | decide | omega) (pv 0) (pa_cons (pv 1) pa_nil)))
  (pss_one (ps_asg (pv 2) (pg_sub (pe_dget hu (pe_fld (pv 0) rfl) (pv 1) (fun _ _ => rfl)) pe_int set_list)))))), ?_⟩
    have hc := L.cl
    have nm := L.nm
    have hlt := hb.lt hk
    obtain ⟨d, ad, kv, X, hv, op, cl⟩ := hb.open hk
    have h1 := (op _ _).mp hh
    walk_at "gs"
    refine u_ask ⟨by omega, by omega⟩ ?_
    walk_at "gs"
    refine u_ask ⟨by omega, by omega⟩ ?_
    walk_at "gs"
    refine ⟨o, k, m, S, Z, R, rfl, hb, hk, hh, ?_⟩
    walk_at "gs"
    refine g_dget (k := .inl (k : Int)) h1 (by walk_at "mem") rfl hv ?_
    walk_at "gs"
    rename_i H2 h2
    obtain ⟨Z', hb', cl'⟩ := cl { m with lent := p }
    exact q Z' H2 hb' (cl' _ _ (Hd.sb (hdCast (c' := lstC ad (mbV { m with lent := p })) h2 rfl) (by walk_at "sbx")))
theorem len_lend {vs : List V} {H : Hp} {Q : VK} {E : XK} (h : sp_lend C vs H Q E) : vs.length = 3 := by obtain ⟨o, k, p, m, S, Z, R, rfl, _⟩ := h; rfl
theorem c_lend1 {f : Addr} {fd : FuncData} (T : Txt K mg aREG aOPS) (L : AgC K C) (F : DefM K "lend" "Ages.lend" s_Ages__lend [.int 0] f fd) (hm : Meth K C "lend" f) (c_ask_range : C8.Cal P w K mg base 3 "ask_range" (sp_ask K) []) (c_Ages__ask_member : C8.Met P w K mg base 4 C "_ask_member" (sp_askM C) []) : C8.Met P w K mg base 5 C "lend" (sp_lend C) [.int 0] := by
  have F : FunD K "lend" "Ages.lend" (defArgs s_Ages__lend) (defBody s_Ages__lend) (defScope s_Ages__lend) [.int 0] [] f fd := F
  obtain ⟨ds, r, b⟩ := F.binds1 (ps := ["self", "pid", "priority"]) 2 0 (by simp) rfl fun T kV doc pm an cdv ct us its h1 h2 => match us, its, h1, h2 with | [_, _], [_], _, _ => ⟨_, rfl, rfl⟩
  exact ⟨f, fd, _, ds, L.cl, hm, F.ok sc_Ages__lend (fun vs H Q E h => len_lend h) (fun cdv A outer s H vs Q E hr hsp => let ⟨t, h, q⟩ := b_lend T L c_ask_range c_Ages__ask_member f cdv A outer s H vs Q E hr hsp; ⟨t, h.nox, q⟩), b, r⟩
theorem c_lend2 {f : Addr} {fd : FuncData} (T : Txt K mg aREG aOPS) (L : AgC K C) (F : DefM K "lend" "Ages.lend" s_Ages__lend [.int 0] f fd) (hm : Meth K C "lend" f) (c_ask_range : C8.Cal P w K mg base 3 "ask_range" (sp_ask K) []) (c_Ages__ask_member : C8.Met P w K mg base 4 C "_ask_member" (sp_askM C) []) : C8.Met P w K mg base 5 C "lend" (sp_lend C) [] := by
  have F : FunD K "lend" "Ages.lend" (defArgs s_Ages__lend) (defBody s_Ages__lend) (defScope s_Ages__lend) [.int 0] [] f fd := F
  obtain ⟨ds, r, b⟩ := F.binds1 (ps := ["self", "pid", "priority"]) 3 1 (by simp) rfl fun T kV doc pm an cdv ct us its h1 h2 => match us, its, h1, h2 with | [_, _, _], [_], _, _ => ⟨_, rfl, rfl⟩
  exact ⟨f, fd, _, ds, L.cl, hm, F.ok sc_Ages__lend (fun vs H Q E h => len_lend h) (fun cdv A outer s H vs Q E hr hsp => let ⟨t, h, q⟩ := b_lend T L c_ask_range c_Ages__ask_member f cdv A outer s H vs Q E hr hsp; ⟨t, h.nox, q⟩), b, r⟩
/-! ### entering and leaving -/
def newM (p : Nat) (b : Bool) : Mb := ⟨p, 0, b, 0⟩
def sp_enter (C : Addr) : Sp := fun vs H Q _ => ∃ (o : Addr) (k p : Nat) (b : Bool) (S : AgS) (Z R : List Cell), vs = [.ref o, .int k, .int p, .bl b] ∧ k ≤ 7 ∧ p ≤ 7 ∧ AgB C o S Z ∧ S k = none ∧ Hd H (Z ++ R) ∧ ∀ Z' H', AgB C o (upS S k (some (newM p b))) Z' → Hd H' (Z' ++ R) → Q .non H'
theorem b_enter (T : Txt K mg aREG aOPS) (L : AgC K C) (c_ask_range : C8.Cal P w K mg base 3 "ask_range" (sp_ask K) []) (c_ask_truth : C8.Cal P w K mg base 1 "ask_truth" sp_askT []) (fa : Addr) (cdv : Value) (A : Around) (outer : List Env) (s : Shared) (H : Hp) (vs : List V) (Q : VK) (E : XK) (hr : Room 4 (A.deeper (envOfC "Ages.enter" (defScope s_Ages__enter) s.heap.objs.size fa cdv))) (h : sp_enter C vs H Q E) :
    ∃ t, PSs (cxOf C8.CX0 P w K mg base nm_Ages__enter "Ages.enter" (defScope s_Ages__enter) fa cdv A outer s H E).nox (defBody s_Ages__enter) t ∧ t { nx := fun _ H' => Q .non H', rt := Q } (L2.start nm_Ages__enter vs) H := by
  · obtain ⟨o, k, p, b, S, Z, R, rfl, hk, hp, hb, hS, hh, q⟩ := h
    have hu : (A.deeper (envOfC "Ages.enter" (defScope s_Ages__enter) s.heap.objs.size fa cdv)).units + 1 < cLine := by have := hr.un; omega
    refine ⟨_, (pss_cons (ps_expr (C8.pe_c c_ask_range hr (by first | decide | omega) rfl (pa_cons pe_str (pa_cons (pv 1) (pa_cons pe_int (pa_cons pe_int pa_nil))))))
  (pss_cons (ps_expr (C8.pe_c c_ask_range hr (by first | decide | omega) rfl (pa_cons pe_str (pa_cons (pv 2) (pa_cons pe_int (pa_cons pe_int pa_nil))))))
  (pss_cons (ps_expr (C8.pe_c c_ask_truth hr (by first | decide | omega) rfl (pa_cons pe_str (pa_cons (pv 3) pa_nil))))
  (pss_cons (ps_if (pt_cmp (pc_din hu (pv 1) (pe_fld (pv 0) rfl)))
    (pss_one ps_never)
    pss_nil)
  (pss_one (ps_dput hu (pe_fld (pv 0) rfl) (pv 1) (pe_lst (pa_cons (pv 2) (pa_cons pe_int (pa_cons (pv 3) (pa_cons pe_int pa_nil))))) rfl)))))), ?_⟩
    have hc := L.cl
    have nm := L.nm
    obtain ⟨d, Z1, tb, rfl⟩ := hb
    obtain ⟨kv, X, e, hn, hgk, cl⟩ := tb.add (k := k) (by omega) hS
    subst e
    have h1 : Hd H (agI o C d :: dctC d kv :: (X ++ R)) := hh
    walk_at "gs"
    refine u_ask ⟨by omega, by omega⟩ ?_
    walk_at "gs"
    refine u_ask ⟨by omega, by omega⟩ ?_
    walk_at "gs"
    refine ⟨"ready", b, rfl, ?_⟩
    walk_at "gs"
    refine g_din (k := .inl (k : Int)) h1 (by walk_at "mem") rfl (b := false) hgk ?_
    walk_at "gs"
    rename_i ad H2 h2
    refine g_dput (k := .inl (k : Int)) h2 (by walk_at "pk") rfl (Nat.lt_of_le_of_lt hn (by decide)) fun H3 h3 => ?_
    obtain ⟨Z', tb', cl'⟩ := cl ad (newM p b)
    refine q (agI o C d :: Z') H3 ⟨d, Z', tb', rfl⟩ ?_
    have h4 := cl' H3 (agI o C d :: R) (Hd.sb (A := dctC d (putK kv (.inl (k : Int)) (.ref ad)) :: lstC ad [.int p, .int 0, .bl b, .int 0] :: (X ++ (agI o C d :: R))) h3 (by walk_at "sbx"))
    exact h4.perm List.perm_middle
theorem len_enter {vs : List V} {H : Hp} {Q : VK} {E : XK} (h : sp_enter C vs H Q E) : vs.length = 4 := by obtain ⟨o, k, p, b, S, Z, R, rfl, _⟩ := h; rfl
abbrev EnF (K : PySem.W.Frag) (C : Addr) (f : Addr) (fd : FuncData) : Prop := FunD K "enter" "Ages.enter" (defArgs s_Ages__enter) (defBody s_Ages__enter) (defScope s_Ages__enter) [.int 3] [("ready", .bl true)] f fd
theorem fo_enter {f : Addr} {fd : FuncData} (T : Txt K mg aREG aOPS) (L : AgC K C) (F : EnF K C f fd) (c_ask_range : C8.Cal P w K mg base 3 "ask_range" (sp_ask K) []) (c_ask_truth : C8.Cal P w K mg base 1 "ask_truth" sp_askT []) : FnOk P w K mg base C8.CX0 5 f fd ["self", "pid", "priority", "ready"] (sp_enter C) :=
  F.ok sc_Ages__enter (fun vs H Q E h => len_enter h) (fun cdv A outer s H vs Q E hr hsp => let ⟨t, h, q⟩ := b_enter T L c_ask_range c_ask_truth f cdv A outer s H vs Q E hr hsp; ⟨t, h.nox, q⟩)
theorem c_enter1 {f : Addr} {fd : FuncData} (T : Txt K mg aREG aOPS) (L : AgC K C) (F : EnF K C f fd) (hm : Meth K C "enter" f) (c_ask_range : C8.Cal P w K mg base 3 "ask_range" (sp_ask K) []) (c_ask_truth : C8.Cal P w K mg base 1 "ask_truth" sp_askT []) : C8.Met P w K mg base 5 C "enter" (sp_enter C) [.int 3, .bl true] := by
  obtain ⟨ds, r, b⟩ := F.binds (ps := ["self", "pid", "priority", "ready"]) 2 0 (by simp) rfl (fun T D doc pm an cdv ct us its ks h1 h2 h3 => match us, its, ks, h1, h2, h3 with | [_, _], [_], [_], _, _, _ => ⟨_, rfl, ⟨_, _, _, _, _, _, rfl, rfl, rfl⟩⟩) (by simp)
  exact ⟨f, fd, _, ds, L.cl, hm, fo_enter T L F c_ask_range c_ask_truth, b, r⟩
theorem c_enter2 {f : Addr} {fd : FuncData} (T : Txt K mg aREG aOPS) (L : AgC K C) (F : EnF K C f fd) (hm : Meth K C "enter" f) (c_ask_range : C8.Cal P w K mg base 3 "ask_range" (sp_ask K) []) (c_ask_truth : C8.Cal P w K mg base 1 "ask_truth" sp_askT []) : C8.Met P w K mg base 5 C "enter" (sp_enter C) [.bl true] := by
  obtain ⟨ds, r, b⟩ := F.binds (ps := ["self", "pid", "priority", "ready"]) 3 1 (by simp) rfl (fun T D doc pm an cdv ct us its ks h1 h2 h3 => match us, its, ks, h1, h2, h3 with | [_, _, _], [_], [_], _, _, _ => ⟨_, rfl, ⟨_, _, _, _, _, _, rfl, rfl, rfl⟩⟩) (by simp)
  exact ⟨f, fd, _, ds, L.cl, hm, fo_enter T L F c_ask_range c_ask_truth, b, r⟩
theorem ck_enter1 {f : Addr} {fd : FuncData} (T : Txt K mg aREG aOPS) (L : AgC K C) (F : EnF K C f fd) (hm : Meth K C "enter" f) (c_ask_range : C8.Cal P w K mg base 3 "ask_range" (sp_ask K) []) (c_ask_truth : C8.Cal P w K mg base 1 "ask_truth" sp_askT []) : MetP P w K mg base 5 C "enter" (sp_enter C) 1 ["ready"] (fun vs zs => vs ++ ([.int 3] ++ zs)) := by
  obtain ⟨its, kb⟩ := F.kbindsD (ps := ["self", "pid", "priority", "ready"]) 2 ["ready"] (fun us its ws => us ++ (its ++ ws)) (by simp) (fun r1 r2 r3 => r1.append (r2.append r3)) fun T kV doc pm an cdv ct us its ws h1 h2 h3 => match us, its, ws, h1, h2, h3 with | [_, _], [_], [_], _, _, _ => ⟨_, rfl, rfl⟩
  exact ⟨f, fd, _, _, L.cl, hm, fo_enter T L F c_ask_range c_ask_truth, kb⟩
theorem ck_enter2 {f : Addr} {fd : FuncData} (T : Txt K mg aREG aOPS) (L : AgC K C) (F : EnF K C f fd) (hm : Meth K C "enter" f) (c_ask_range : C8.Cal P w K mg base 3 "ask_range" (sp_ask K) []) (c_ask_truth : C8.Cal P w K mg base 1 "ask_truth" sp_askT []) : MetP P w K mg base 5 C "enter" (sp_enter C) 2 ["ready"] (fun vs zs => vs ++ zs) := by
  obtain ⟨its, kb⟩ := F.kbindsD (ps := ["self", "pid", "priority", "ready"]) 3 ["ready"] (fun us _ ws => us ++ ws) (by simp) (fun r1 _ r3 => r1.append r3) fun T kV doc pm an cdv ct us its ws h1 h2 h3 => match us, its, ws, h1, h2, h3 with | [_, _, _], [_], [_], _, _, _ => ⟨_, rfl, rfl⟩
  exact ⟨f, fd, _, _, L.cl, hm, fo_enter T L F c_ask_range c_ask_truth, kb⟩
def sp_leave (C : Addr) : Sp := fun vs H Q _ => ∃ (o : Addr) (k : Nat) (m : Mb) (S : AgS) (Z R : List Cell), vs = [.ref o, .int k] ∧ AgB C o S Z ∧ S k = some m ∧ Hd H (Z ++ R) ∧ ∀ Z' H', AgB C o (upS S k none) Z' → Hd H' (Z' ++ R) → Q .non H'
theorem c_leave (T : Txt K mg aREG aOPS) (L : AgC K C) (d : MetAt K C "leave" "Ages.leave" s_Ages__leave) (c_Ages__ask_member : C8.Met P w K mg base 4 C "_ask_member" (sp_askM C) []) : C8.Met P w K mg base 5 C "leave" (sp_leave C) [] := by
  refine mkM d sc_Ages__leave (fun _ _ _ _ _ _ us hl => match us, hl with | [_, _], _ => rfl) (fun vs H Q E h => ?_) (fun fa cdv A outer s H vs Q E hr h => ?_)
  · obtain ⟨o, k, m, S, Z, R, rfl, _⟩ := h
    rfl
  · obtain ⟨o, k, m, S, Z, R, rfl, hb, hk, hh, q⟩ := h
    refine ⟨_, (pss_cons (ps_expr (C8.pe_mt c_Ages__ask_member hr (by first | decide | omega) (pv 0) (pa_cons (pv 1) pa_nil)))
  (pss_one (ps_ddel (pe_fld (pv 0) rfl) (pv 1)))), ?_⟩
    have hc := L.cl
    have nm := L.nm
    have hb2 := hb
    obtain ⟨d, Z1, tb, rfl⟩ := hb
    obtain ⟨kv, X, e, ⟨ad, hv⟩, Z', tb', cl⟩ := tb.del hk
    subst e
    have h1 : Hd H (agI o C d :: dctC d kv :: (X ++ R)) := hh
    walk_at "gs"
    refine ⟨o, k, m, S, _, R, rfl, hb2, hk, hh, ?_⟩
    walk_at "gs"
    refine g_ddel (k := .inl (k : Int)) h1 (by walk_at "pk") rfl (by rw [hv]; rfl) fun H3 h3 => ?_
    refine q (agI o C d :: Z') H3 ⟨d, Z', tb', rfl⟩ ?_
    have h4 := cl H3 (agI o C d :: R) (Hd.sb (A := dctC d (dropK kv (.inl (k : Int))) :: (X ++ (agI o C d :: R))) h3 (by walk_at "sbx"))
    exact h4.perm List.perm_middle
/-! ### questions -/
def memB (S : AgS) (v : V) : Bool := match v with
  | .int i => decide (0 ≤ i) && (S i.toNat).isSome
  | _ => false
def sp_cont (K : PySem.W.Frag) (C : Addr) : Sp := fun vs H Q _ => ∃ (o : Addr) (v : V) (t : String) (S : AgS) (Z R : List Cell), vs = [.ref o, v] ∧ KH K H v t ∧ AgB C o S Z ∧ Hd H (Z ++ R) ∧ Q (.bl (memB S v)) H
theorem c_cont (T : Txt K mg aREG aOPS) (L : AgC K C) (d : MetAt K C "__contains__" "Ages.__contains__" s_Ages____contains__) (c_is_integer : C8.Cal P w K mg base 1 "is_integer" (sp_integer K) []) : C8.Met P w K mg base 2 C "__contains__" (sp_cont K C) [] := by
  refine mkM d sc_Ages____contains__ (fun _ _ _ _ _ _ us hl => match us, hl with | [_, _], _ => rfl) (fun vs H Q E h => ?_) (fun fa cdv A outer s H vs Q E hr h => ?_)
  · obtain ⟨o, v, t, S, Z, R, rfl, _⟩ := h
    rfl
  · obtain ⟨o, v, t, S, Z, R, rfl, kh, hb, hh, q⟩ := h
    have hu : (A.deeper (envOfC "Ages.__contains__" (defScope s_Ages____contains__) s.heap.objs.size fa cdv)).units + 1 < cLine := by have := hr.un; omega
    refine ⟨_, (pss_one (ps_ret (pe_and (C8.pe_c c_is_integer hr (by first | decide | omega) rfl (pa_cons (pv 1) pa_nil)) (pe_one (pe_cmp (pc_din hu (pv 1) (pe_fld (pv 0) rfl))))))), ?_⟩
    have hc := L.cl
    have nm := L.nm
    obtain ⟨d, Z1, tb, rfl⟩ := hb
    obtain ⟨kv, X, e, hn, hg, hneg⟩ := tb.has
    subst e
    have h1 : Hd H (agI o C d :: dctC d kv :: (X ++ R)) := hh
    walk_at "gs"
    refine u_integer kh ?_
    cases kh with
    | int =>
      rename_i i
      refine ⟨true, rfl, ?_⟩
      walk_at "gs"
      refine g_din (k := .inl i) h1 (by walk_at "mem") rfl (b := memB S (.int i)) ?_ q
      show (valV kv (.inl i)).isSome = (decide (0 ≤ i) && (S i.toNat).isSome)
      by_cases h : 0 ≤ i
      · obtain ⟨j, rfl⟩ := Int.eq_ofNat_of_zero_le h
        rw [decide_eq_true h, Bool.true_and]
        exact hg j
      · rw [decide_eq_false h, Bool.false_and]
        exact hneg i (by omega)
    | _ =>
      refine ⟨false, rfl, ?_⟩
      walk_at "gs"
      exact q
end
end
end K23
set_option Elab.async false
set_option linter.all false
set_option maxRecDepth 100000
set_option maxHeartbeats 4000000
namespace K23
open PySem PySem.Spec PyProof.Rows L2 Wk
local macro_rules | `(tactic| walk_at "u1") => `(tactic| fail "no more")
local macro_rules | `(tactic| walk_at "pos") => `(tactic| first | assumption | omega | decide | (simp only [Int.ofNat_eq_natCast] at *; omega))
local macro_rules | `(tactic| walk_at "sz") => `(tactic| first
  | (simp only [List.length_cons, List.length_nil]; decide)
  | exact Evl.sz_of (by omega)
  | exact Evl.sz_lt (by omega)
  | exact Evl.sz_of (by simp only [List.length_map, List.length_append, List.length_cons, List.length_nil, List.length_replicate]; omega)
  | exact Evl.sz_lt (by simp only [List.length_map, List.length_append, List.length_cons, List.length_nil, List.length_replicate]; omega))
local macro_rules | `(tactic| walk_at "cond") => `(tactic| first
  | exact Or.inr ⟨by decide, by decide⟩
  | (show (0 : Int) < _; first | decide | assumption | omega)
  | exact Or.inl ⟨by omega, by omega⟩
  | exact Or.inr ⟨by omega, by omega⟩
  | exact ⟨by decide, by decide, by decide⟩
  | exact log2_lt (by omega) (by omega)
  | exact ⟨by omega, by omega⟩)
local macro_rules | `(tactic| walk_at "ty") => `(tactic| first
  | exact ty_int | exact ty_bl | exact ty_str | exact ty_non
  | exact ty_L (by assumption) | exact ty_T (by assumption)
  | exact ty_L (SqL.of (by assumption)) | exact ty_T (SqT.of (by assumption)))
local macro_rules | `(tactic| walk_at "kit") => `(tactic| first
  | exact k_ii | exact k_ib | exact k_is | exact k_il | exact k_it
  | exact k_bb | exact k_bi | exact k_bs | exact k_bl | exact k_bt
  | exact k_ss | exact k_sb | exact k_si | exact k_sl | exact k_st
  | exact k_ll | exact k_lb | exact k_li | exact k_ls | exact k_lt
  | exact k_tt | exact k_tb | exact k_ti | exact k_ts | exact k_tl
  | exact k_nn | exact k_ni | exact k_ns | exact k_nl | exact k_nt)
local macro_rules | `(tactic| walk_at "s1") => `(tactic| first
  | with_reducible refine w_seq ?_
  | with_reducible refine w_set ?_
  | with_reducible refine w_op ?_
  | ((with_reducible refine' w_var ?h1 ?_); (case h1 => rfl))
  | with_reducible refine w_c ?_
  | with_reducible refine w_cb ?_
  | with_reducible refine w_cons ?_
  | with_reducible refine w_nil ?_
  | with_reducible refine w_I0 ?_
  | ((with_reducible refine' w_I ?c1 ?_); case c1 => walk_at "cond")
  | with_reducible refine w_ret ?_
  | with_reducible refine w_next ?_
  | with_reducible refine w_ifS ?_
  | with_reducible refine w_test ?_
  | with_reducible refine w_tB ?_
  | with_reducible refine w_k ?_
  | with_reducible refine w_eqI ?_
  | with_reducible refine w_neI ?_
  | with_reducible refine w_eqS ?_
  | with_reducible refine w_neS ?_
  | with_reducible refine w_and ?_
  | with_reducible refine w_or ?_
  | with_reducible refine w_not ?_
  | with_reducible refine w_andV ?_
  | with_reducible refine w_orV ?_
  | with_reducible refine w_notV ?_
  | with_reducible refine w_ifE ?_
  | with_reducible refine w_true ?_
  | with_reducible refine w_false ?_
  | with_reducible refine w_ntrue ?_
  | with_reducible refine w_nfalse ?_
  | with_reducible refine w_call ?_
  | with_reducible refine c_int ?_
  | with_reducible refine c_abs ?_
  | with_reducible refine c_max ?_
  | with_reducible refine c_min ?_
  | with_reducible refine w_drop ?_
  | with_reducible refine w_sfld ?_
  | with_reducible refine w_meth ?_
  | with_reducible refine w_make ?_
  | with_reducible refine w_prop ?_
  | with_reducible refine w_callK ?_
  | with_reducible refine w_callN ?_
  | with_reducible refine w_star ?_
  | with_reducible refine w_gcons ?_
  | with_reducible refine w_gname ?_
  | with_reducible refine w_gnil ?_
  | with_reducible refine w_retN ?_
  | with_reducible refine w_tup ?_
  | with_reducible refine w_lst ?_
  | with_reducible refine w_fld ?_
  | with_reducible refine w_bm ?_
  | with_reducible refine w_bm0 ?_
  | with_reducible refine w_forL ?_
  | with_reducible refine w_forT ?_
  | with_reducible refine w_forS ?_
  | with_reducible refine w_forR ?_
  | with_reducible refine w_lcR ?_
  | with_reducible refine w_lcL ?_
  | with_reducible refine w_lcT ?_
  | with_reducible refine w_isN ?_
  | with_reducible refine w_notN ?_
  | with_reducible refine w_asg ?_
  | with_reducible refine w_gsub ?_
  | ((with_reducible refine' w_aug ?h1 ?_); (case h1 => rfl))
  | with_reducible refine w_augS ?_
  | with_reducible refine w_ipI ?_
  | with_reducible refine w_un ?_
  | with_reducible refine w_U ?_
  | ((with_reducible refine' w_iteF ?f1 ?_); case f1 => (first | (intro h; cases h; done) | decide))
  | ((with_reducible refine' w_iteT ?f1 ?_); case f1 => rfl)
  | ((with_reducible refine' w_iteNF ?f1 ?_); case f1 => rfl)
  | ((with_reducible refine' w_iteNT ?f1 ?_); case f1 => (first | (intro h; cases h; done) | decide))
  | ((with_reducible refine' c_isi ?t1 ?k1 ?_); (case t1 => walk_at "ty"); (case k1 => walk_at "kit"))
  | ((with_reducible refine' w_eq ?e1 ?_); case e1 => rfl)
  | ((with_reducible refine' w_ne ?e1 ?_); case e1 => rfl)
  | walk_at "u1")
local macro_rules | `(tactic| walk_at "s") => `(tactic| repeat walk_at "s1")
local macro_rules | `(tactic| walk_at "mem") => `(tactic| first | with_reducible exact List.mem_cons_self .. | ((with_reducible refine' List.mem_cons_of_mem _ ?q); (case q => walk_at "mem")) | assumption | ((with_reducible refine' List.mem_append_right _ ?q); (case q => walk_at "mem")) | (exact List.mem_append_left _ (by assumption)))
local macro_rules | `(tactic| walk_at "pk") => `(tactic| first | with_reducible exact Pk.here | ((with_reducible refine' Pk.there ?q); (case q => walk_at "pk")) | ((with_reducible refine' Pk.app ?q); (case q => walk_at "pk")))
local macro_rules | `(tactic| walk_at "pkb") => `(tactic| first | with_reducible exact PkB.here | ((with_reducible refine' PkB.there ?q); (case q => walk_at "pkb")) | ((with_reducible refine' PkB.app ?q); (case q => walk_at "pkb")))
local macro_rules | `(tactic| walk_at "spl") => `(tactic| first | with_reducible exact Spl.nil | ((with_reducible refine' Spl.cons ?h ?t); (case h => walk_at "pk"); (case t => walk_at "spl")) | ((with_reducible refine' Spl.blk ?h ?t); (case h => walk_at "pkb"); (case t => walk_at "spl")))
local macro_rules | `(tactic| walk_at "sbx") => `(tactic| first | with_reducible exact Sb.refl | with_reducible exact Sb.nil | with_reducible exact Sb.left | ((with_reducible refine' Sb.cons ?h ?t); (case h => walk_at "pk"); (case t => walk_at "sbx")) | ((with_reducible refine' Sb.blk ?h ?t); (case h => walk_at "pkb"); (case t => walk_at "sbx")) | ((with_reducible refine' Sb.drop ?q); (case q => walk_at "sbx")) | ((with_reducible refine' Sb.right ?q); (case q => walk_at "sbx")))
local macro_rules | `(tactic| walk_at "hd") => `(tactic| first | assumption | exact Hd.sb (by assumption) (by walk_at "sbx"))
local macro_rules | `(tactic| walk_at "sq") => `(tactic| first
  | assumption
  | exact Hd.sqL (by assumption) (by walk_at "mem")
  | exact Hd.sqT (by assumption) (by walk_at "mem")
  | exact Hd.sqF (by assumption) (by walk_at "mem")
  | (refine .inl ?_; walk_at "sq")
  | (refine .inr ?_; walk_at "sq"))
local macro_rules | `(tactic| walk_at "at") => `(tactic| first | rfl | assumption | exact atI_nat (by assumption))
local macro_rules | `(tactic| walk_at "dn1") => `(tactic| first
  | exact Dn.int | exact Dn.str | exact Dn.non | exact Dn.bl | assumption
  | ((refine' Dn.tp ?a1 ?m1 ?l1 ?p1); (case a1 => assumption); (case m1 => walk_at "mem"); (case l1 => (simp only [List.length_cons, List.length_nil]; omega)); (case p1 => walk_at "dns"))
  | ((refine' Dn.lt ?a1 ?m1 ?l1 ?p1); (case a1 => assumption); (case m1 => walk_at "mem"); (case l1 => (simp only [List.length_cons, List.length_nil]; omega)); (case p1 => walk_at "dns")))
local macro_rules | `(tactic| walk_at "dns") => `(tactic| first | exact Paired.nil | exact Dn.ints | ((refine' Paired.cons ?a1 ?b1); (case a1 => walk_at "dn1"); (case b1 => walk_at "dns")))
local macro_rules | `(tactic| walk_at "g1") => `(tactic| first
  | ((with_reducible refine' g_ixI ?h1 ?h2 ?h3 ?_); (case h1 => assumption); (case h2 => walk_at "mem"); (case h3 => omega); intro z hz)
  | ((with_reducible refine' g_ixIT ?h1 ?h2 ?h3 ?_); (case h1 => assumption); (case h2 => walk_at "mem"); (case h3 => omega); intro z hz)
  | ((with_reducible refine' g_setI ?h1 ?h2 ?h3 ?_); (case h1 => assumption); (case h2 => walk_at "pk"); (case h3 => omega); intro H2 hh2)
  | ((with_reducible refine' w_ixL ?h1 ?h2 ?_); (case h1 => walk_at "sq"); (case h2 => walk_at "at"))
  | ((with_reducible refine' w_ixT ?h1 ?h2 ?_); (case h1 => walk_at "sq"); (case h2 => walk_at "at"))
  | ((with_reducible refine' w_ixAny ?h1 ?h2 ?_); (case h1 => walk_at "sq"); (case h2 => walk_at "at"))
  | ((with_reducible refine' c_lenA ?h1 ?_); (case h1 => walk_at "sq"))
  | ((with_reducible refine' c_isi ?t1 ?k1 ?_); (case t1 => first | exact ty_T (by walk_at "sq") | exact ty_L (by walk_at "sq")); (case k1 => walk_at "kit"))
  | ((with_reducible refine' g_lst ?h1 ?h2 ?_); (case h1 => assumption); (case h2 => walk_at "sz"); intro p H2 hh2)
  | ((with_reducible refine' g_tup ?h1 ?h2 ?_); (case h1 => assumption); (case h2 => walk_at "sz"); intro p H2 hh2)
  | ((with_reducible refine' g_dict ?h1 ?_); (case h1 => assumption); intro p H2 hh2)
  | ((with_reducible refine' g_listL ?h1 ?h2 ?_); (case h1 => assumption); (case h2 => walk_at "sq"); intro p H2 hh2)
  | ((with_reducible refine' g_listT ?h1 ?h2 ?_); (case h1 => assumption); (case h2 => walk_at "sq"); intro p H2 hh2)
  | ((with_reducible refine' g_tupL ?h1 ?h2 ?_); (case h1 => assumption); (case h2 => walk_at "sq"); intro p H2 hh2)
  | ((with_reducible refine' g_set ?h1 ?h2 ?h3 ?_); (case h1 => assumption); (case h2 => walk_at "pk"); (case h3 => first | rfl | assumption | exact Evl.ixN_nat (by first | omega | (simp only [List.length_cons, List.length_nil]; omega))); intro H2 hh2)
  | ((with_reducible refine' g_kbm ?h1 ?h2 ?_); (case h1 => assumption); (case h2 => walk_at "mem"))
  | ((with_reducible refine' g_kbm0 ?h1 ?h2 ?_); (case h1 => assumption); (case h2 => walk_at "mem"))
  | ((with_reducible refine' g_app ?h1 ?h2 ?h3 ?_); (case h1 => assumption); (case h2 => walk_at "pk"); (case h3 => walk_at "sz"); intro H2 hh2)
  | ((with_reducible refine' g_kapp ?h1 ?h2 ?h3 ?_); (case h1 => assumption); (case h2 => walk_at "pk"); (case h3 => walk_at "sz"); intro H2 hh2)
  | ((with_reducible refine' g_fld ?h1 ?h2 ?h3 ?h4 ?h5 ?_); (case h1 => assumption); (case h2 => walk_at "mem"); (case h3 => assumption); (case h4 => assumption); (case h5 => rfl))
  | ((with_reducible refine' g_sfld ?h1 ?h2 ?h3 ?h4 ?h5 ?_); (case h1 => assumption); (case h2 => walk_at "pk"); (case h3 => assumption); (case h4 => assumption); (case h5 => decide); intro H2 hh2)
  | ((with_reducible refine' g_meth ?h1 ?h2 ?h3 ?_); (case h1 => assumption); (case h2 => walk_at "mem"); (case h3 => rfl))
  | ((with_reducible refine' g_prop ?h1 ?h2 ?_); (case h1 => assumption); (case h2 => walk_at "mem"))
  | ((with_reducible refine' g_make ?h1 ?_); (case h1 => assumption); intro x H2 hh2)
  | ((with_reducible refine' g_cat ?h1 ?h2 ?h3 ?h4 ?_); (case h1 => assumption); (case h2 => walk_at "mem"); (case h3 => walk_at "mem"); (case h4 => walk_at "sz"); intro p H2 hh2)
  | ((with_reducible refine' g_inT ?h1 ?h2 ?h3 ?h4 ?h5 ?_); (case h1 => assumption); (case h2 => walk_at "mem"); (case h3 => rfl); (case h4 => rfl); (case h5 => rfl)))
local macro_rules | `(tactic| walk_at "gs") => `(tactic| repeat first | walk_at "s1" | walk_at "g1")
local macro_rules | `(tactic| walk_at "ite") => `(tactic| first
  | ((with_reducible refine' w_iteT ?h1 ?_); (case h1 => omega))
  | ((with_reducible refine' w_iteF ?h1 ?_); (case h1 => omega))
  | (with_reducible refine w_ite ?_ ?_ <;> intro hq)
  | ((with_reducible refine' w_iteNT ?h1 ?_); (case h1 => omega))
  | ((with_reducible refine' w_iteNF ?h1 ?_); (case h1 => omega))
  | (with_reducible refine w_iteN ?_ ?_ <;> intro hq))
local macro_rules | `(tactic| walk_at "go") => `(tactic| repeat' first | walk_at "s1" | walk_at "g1" | walk_at "ite")
local macro_rules | `(tactic| walk_at "g1") => `(tactic| first | with_reducible refine w_din ?_ | with_reducible refine w_dnotin ?_ | with_reducible refine w_dget ?_ | with_reducible refine w_dput ?_ | with_reducible refine w_ddel ?_ | with_reducible refine w_dpop ?_)
section
variable {P : Program} {w : World} {K : PySem.W.Frag} {mg : Str → Option Value} {base : Heap} {aREG aOPS : Addr}
/-! ### rows and pick -/
def natV (xs : List Nat) : List V := xs.map fun k : Nat => V.int (k : Int)
theorem natV_ints (xs : List Nat) : (xs.map fun k : Nat => (k : Int)).map V.int = natV xs := by
  unfold natV
  rw [List.map_map]
  rfl
theorem natV_len (xs : List Nat) : (natV xs).length = xs.length := List.length_map ..
/-- sorted(list(d)) -/
theorem g_keys {ρ : Type} {rv : ρ → List V} {n : Nat} {d : Addr} {S : Nat → Option ρ} {Z1 : List Cell} {σ : L2.St} {H : Hp} {L : List Cell} {Q : VK} (tb : TabB rv n d S Z1) (hn : n < 64) (hh : Hd H L) (m : ∀ kv X, Z1 = dctC d kv :: X → dctC d kv ∈ L)
    (q : ∀ p H', Hd H' (lstC p (natV (keysS n S)) :: L) → Q (.ref p) H') : CB rListD [.ref d] H fun v H1 => tNil σ H1 fun xs H2 => CB (rSorted K) (v :: xs) H2 Q := by
  obtain ⟨ks, kv, X, e, _, hk, hl, hs⟩ := tb.sorted
  refine g_listDK hh (m kv X e) fun l H2 h2 => ?_
  rw [hk] at h2
  refine ⟨l, ks.map fun k : Nat => (k : Int), rfl, h2.sqL (List.mem_cons_self ..), by rw [List.length_map]; omega, fun ns' p hp hp2 hn2 => ?_⟩
  have h3 := h2.newL (New.of (o := HO.lst (ns'.map V.int)) hn2)
  rw [hs ns' hp hp2, natV_ints] at h3
  rw [hs ns' hp hp2, natV_ints]
  generalize upd H2 p _ = H3 at h3 ⊢
  exact q p H3 ⟨(List.nodup_cons.mpr ⟨fun z => (List.nodup_cons.mp h3.nd).1 (List.mem_cons_of_mem _ z), (List.nodup_cons.mp (List.nodup_cons.mp h3.nd).2).2⟩), fun c hc => h3.at_ c ((List.mem_cons.mp hc).elim (fun e => by rw [e]; exact List.mem_cons_self ..) fun z => List.mem_cons_of_mem _ (List.mem_cons_of_mem _ z))⟩
abbrev keys8 (S : AgS) : List Nat := keysS 8 S
def mbP (k : Nat) (m : Mb) : PyData := .tuple [.int k, .int m.base, .int m.lent, .bool m.ready, .int m.age]
def rowsP (S : AgS) (ks : List Nat) : List PyData := ks.map fun k => ((S k).map (mbP k)).getD .none
section
variable {C : Addr}
def sp_rows (K : PySem.W.Frag) (C : Addr) : Sp := fun vs H Q _ => ∃ (o : Addr) (S : AgS) (Z R : List Cell), vs = [.ref o] ∧ AgB C o S Z ∧ Hd H (Z ++ R) ∧ ∀ D xs Y H', xs.length ≤ 8 → (∀ H, Hd H Y → Paired (Dn K [] H 1) xs (rowsP S (keys8 S))) → Hd H' (lstC D xs :: (Y ++ (Z ++ R))) → Q (.ref D) H'
theorem c_rows (T : Txt K mg aREG aOPS) (L : AgC K C) (d : MetAt K C "rows" "Ages.rows" s_Ages__rows) : C8.Met P w K mg base 1 C "rows" (sp_rows K C) [] := by
  refine mkM d sc_Ages__rows (fun _ _ _ _ _ _ us hl => match us, hl with | [_], _ => rfl) (fun vs H Q E h => ?_) (fun fa cdv A outer s H vs Q E hr h => ?_)
  · obtain ⟨o, S, Z, R, rfl, _⟩ := h
    rfl
  · obtain ⟨o, S, Z, R, rfl, hb, hh, q⟩ := h
    have hu : (A.deeper (envOfC "Ages.rows" (defScope s_Ages__rows) s.heap.objs.size fa cdv)).units + 1 < cLine := by have := hr.un; omega
    refine ⟨_, (pss_one (ps_ret (pe_lc (own := [("pid", 1)]) rfl sc_Ages__rows.nd (pi_list (pe_callB cr_sorted (by rfl) T.b_sorted (by decide +kernel) (pa_cons (pe_callTy (call_list_dK rfl) (by rfl) T.b_list (by decide +kernel) (pa_cons (pe_fld (pv 0) rfl) pa_nil)) pa_nil))) (blkOk_by (own := [("pid", 1)]) (N := nm_Ages__rows) (sc := defScope s_Ages__rows) (by decide +kernel)) (fun _ _ _ _ _ => (pg_name (i := 1) sc_Ages__rows.nd rfl (Or.inl rfl))) (fun _ _ _ _ _ => pts_nil) (fun _ _ _ _ _ => (pe_tup (pa_cons (pv 1) (show PA _ _ (StX.tStar K _ _) from (StX.pa_star (pe_dget hu (show PE _ _ (tFld K (tVar 0) (Str.ofString "_members")) from pe_fld (pv 0) rfl) (pv 1) (fun _ _ => rfl)) pa_nil)))))))), ?_⟩
    have hc := L.cl
    have nm := L.nm
    have hb2 := hb
    obtain ⟨d, Z1, tb, rfl⟩ := hb
    have h1 : Hd H (agI o C d :: (Z1 ++ R)) := hh
    walk_at "gs"
    refine g_keys tb (by decide) h1 (fun kv X e => by rw [e]; exact List.mem_cons_of_mem _ (List.mem_cons_self ..)) fun p H2 h2 => ?_
    have hkl : (keys8 S).length ≤ 8 := by
      show ((List.range 8).filter fun k => (S k).isSome).length ≤ 8
      exact Nat.le_trans (List.length_filter_le _ _) (by rw [List.length_range]; exact Nat.le_refl _)
    refine g_lcL h2 (h2.sqL (List.mem_cons_self ..)) (fun i D H => ∃ (xs : List V) (Y : List Cell), xs.length = i ∧ i ≤ 8 ∧ (∀ H, Hd H Y → Paired (Dn K [] H 1) xs (rowsP S ((keys8 S).take i))) ∧ Hd H (lstC D xs :: lstC p (natV (keys8 S)) :: (Y ++ (agI o C d :: (Z1 ++ R))))) (fun D H1 h1 => ⟨[], [], rfl, by omega, fun _ _ => .nil, h1⟩) (fun i D H _ h => by obtain ⟨_, _, _, _, _, h⟩ := h; exact h.sqL (by walk_at "mem")) ?_ ?_
    · rintro i x D H3 hx ⟨xs, Y, hxl, hi8, hY, h3⟩
      unfold natV at hx
      rw [List.getElem?_map] at hx
      cases hw : (keys8 S)[i]? with
      | none => rw [hw] at hx; cases hx
      | some k =>
        rw [hw] at hx
        cases hx
        have hi : i < (keys8 S).length := (List.getElem?_eq_some_iff.mp hw).1
        have hks := (keysS_mem.mp (List.mem_of_getElem? hw)).2
        obtain ⟨m, hm⟩ : ∃ m, S k = some m := Option.isSome_iff_exists.mp hks
        obtain ⟨ad, kv, X, hv, op, _⟩ := tb.open hm
        have h4 : Hd H3 (dctC d kv :: lstC ad (mbV m) :: (X ++ (lstC D xs :: lstC p (natV (keys8 S)) :: (Y ++ (agI o C d :: R))))) := (op _ _).mp (Hd.sb h3 (by walk_at "sbx"))
        have hsz : xs.length < sizeLine := Nat.lt_of_lt_of_le (show xs.length < 1001 by omega) (by decide)
        clear h1 h2
        walk_at "gs"
        refine g_dget (k := .inl (k : Int)) h4 (by walk_at "mem") rfl hv ?_
        refine w_kstarL (h4.sqL (by walk_at "mem")) ?_
        walk_at "gs"
        rename_i t H5 h5 H6 h6
        refine ⟨xs ++ [.ref t], tupC t (.int (k : Int) :: mbV m) :: Y, by rw [List.length_append, hxl]; rfl, by omega, fun H hz => ?_, ?_⟩
        · unfold rowsP
          rw [tk_succ hw, List.map_append]
          refine pSnoc (hY H hz.tail) ?_
          show Dn K [] H 1 (.ref t) (((S k).map (mbP k)).getD .none)
          rw [hm]
          exact .inr (.inr ⟨t, _, _, rfl, rfl, List.not_mem_nil, hz.sqT (List.mem_cons_self ..), (show 5 ≤ 100000 by decide), .cons Dn.int (.cons Dn.int (.cons Dn.int (.cons Dn.bl (.cons Dn.int .nil))))⟩)
        · have h6 : Hd H6 (lstC D (xs ++ [.ref t]) :: tupC t (.int (k : Int) :: mbV m) :: dctC d kv :: lstC ad (mbV m) :: (X ++ (lstC p (natV (keys8 S)) :: (Y ++ (agI o C d :: R))))) := h6
          have h7 := (op H6 (lstC D (xs ++ [.ref t]) :: lstC p (natV (keys8 S)) :: tupC t (.int (k : Int) :: mbV m) :: (Y ++ (agI o C d :: R)))).mpr (Hd.sb (A := dctC d kv :: lstC ad (mbV m) :: (X ++ (lstC D (xs ++ [.ref t]) :: lstC p (natV (keys8 S)) :: tupC t (.int (k : Int) :: mbV m) :: (Y ++ (agI o C d :: R))))) h6 (by walk_at "sbx"))
          exact Hd.sb (A := lstC D (xs ++ [.ref t]) :: lstC p (natV (keys8 S)) :: tupC t (.int (k : Int) :: mbV m) :: (Y ++ (agI o C d :: (Z1 ++ R)))) h7 (by walk_at "sbx")
    · rintro D H3 ⟨xs, Y, hxl, hi8, hY, h3⟩
      rw [natV_len, List.take_length] at hY
      exact q D xs Y H3 (by omega) hY (show Hd H3 (lstC D xs :: (Y ++ (agI o C d :: (Z1 ++ R)))) from Hd.sb h3 (by walk_at "sbx"))
end
end
end K23
set_option Elab.async false
set_option linter.all false
set_option maxRecDepth 100000
set_option maxHeartbeats 4000000
namespace K23
open PySem PySem.Spec PyProof.Rows L2 Wk
local macro_rules | `(tactic| walk_at "u1") => `(tactic| fail "no more")
local macro_rules | `(tactic| walk_at "pos") => `(tactic| first | assumption | omega | decide | (simp only [Int.ofNat_eq_natCast] at *; omega))
local macro_rules | `(tactic| walk_at "sz") => `(tactic| first
  | (simp only [List.length_cons, List.length_nil]; decide)
  | exact Evl.sz_of (by omega)
  | exact Evl.sz_lt (by omega)
  | exact Evl.sz_of (by simp only [List.length_map, List.length_append, List.length_cons, List.length_nil, List.length_replicate]; omega)
  | exact Evl.sz_lt (by simp only [List.length_map, List.length_append, List.length_cons, List.length_nil, List.length_replicate]; omega))
local macro_rules | `(tactic| walk_at "cond") => `(tactic| first
  | exact Or.inr ⟨by decide, by decide⟩
  | (show (0 : Int) < _; first | decide | assumption | omega)
  | exact Or.inl ⟨by omega, by omega⟩
  | exact Or.inr ⟨by omega, by omega⟩
  | exact ⟨by decide, by decide, by decide⟩
  | exact log2_lt (by omega) (by omega)
  | exact ⟨by omega, by omega⟩)
local macro_rules | `(tactic| walk_at "ty") => `(tactic| first
  | exact ty_int | exact ty_bl | exact ty_str | exact ty_non
  | exact ty_L (by assumption) | exact ty_T (by assumption)
  | exact ty_L (SqL.of (by assumption)) | exact ty_T (SqT.of (by assumption)))
local macro_rules | `(tactic| walk_at "kit") => `(tactic| first
  | exact k_ii | exact k_ib | exact k_is | exact k_il | exact k_it
  | exact k_bb | exact k_bi | exact k_bs | exact k_bl | exact k_bt
  | exact k_ss | exact k_sb | exact k_si | exact k_sl | exact k_st
  | exact k_ll | exact k_lb | exact k_li | exact k_ls | exact k_lt
  | exact k_tt | exact k_tb | exact k_ti | exact k_ts | exact k_tl
  | exact k_nn | exact k_ni | exact k_ns | exact k_nl | exact k_nt)
local macro_rules | `(tactic| walk_at "s1") => `(tactic| first
  | with_reducible refine w_seq ?_
  | with_reducible refine w_set ?_
  | with_reducible refine w_op ?_
  | ((with_reducible refine' w_var ?h1 ?_); (case h1 => rfl))
  | with_reducible refine w_c ?_
  | with_reducible refine w_cb ?_
  | with_reducible refine w_cons ?_
  | with_reducible refine w_nil ?_
  | with_reducible refine w_I0 ?_
  | ((with_reducible refine' w_I ?c1 ?_); case c1 => walk_at "cond")
  | with_reducible refine w_ret ?_
  | with_reducible refine w_next ?_
  | with_reducible refine w_ifS ?_
  | with_reducible refine w_test ?_
  | with_reducible refine w_tB ?_
  | with_reducible refine w_k ?_
  | with_reducible refine w_eqI ?_
  | with_reducible refine w_neI ?_
  | with_reducible refine w_eqS ?_
  | with_reducible refine w_neS ?_
  | with_reducible refine w_and ?_
  | with_reducible refine w_or ?_
  | with_reducible refine w_not ?_
  | with_reducible refine w_andV ?_
  | with_reducible refine w_orV ?_
  | with_reducible refine w_notV ?_
  | with_reducible refine w_ifE ?_
  | with_reducible refine w_true ?_
  | with_reducible refine w_false ?_
  | with_reducible refine w_ntrue ?_
  | with_reducible refine w_nfalse ?_
  | with_reducible refine w_call ?_
  | with_reducible refine c_int ?_
  | with_reducible refine c_abs ?_
  | with_reducible refine c_max ?_
  | with_reducible refine c_min ?_
  | with_reducible refine w_drop ?_
  | with_reducible refine w_sfld ?_
  | with_reducible refine w_meth ?_
  | with_reducible refine w_make ?_
  | with_reducible refine w_prop ?_
  | with_reducible refine w_callK ?_
  | with_reducible refine w_callN ?_
  | with_reducible refine w_star ?_
  | with_reducible refine w_gcons ?_
  | with_reducible refine w_gname ?_
  | with_reducible refine w_gnil ?_
  | with_reducible refine w_retN ?_
  | with_reducible refine w_tup ?_
  | with_reducible refine w_lst ?_
  | with_reducible refine w_fld ?_
  | with_reducible refine w_bm ?_
  | with_reducible refine w_bm0 ?_
  | with_reducible refine w_forL ?_
  | with_reducible refine w_forT ?_
  | with_reducible refine w_forS ?_
  | with_reducible refine w_forR ?_
  | with_reducible refine w_lcR ?_
  | with_reducible refine w_lcL ?_
  | with_reducible refine w_lcT ?_
  | with_reducible refine w_isN ?_
  | with_reducible refine w_notN ?_
  | with_reducible refine w_asg ?_
  | with_reducible refine w_gsub ?_
  | ((with_reducible refine' w_aug ?h1 ?_); (case h1 => rfl))
  | with_reducible refine w_augS ?_
  | with_reducible refine w_ipI ?_
  | with_reducible refine w_un ?_
  | with_reducible refine w_U ?_
  | ((with_reducible refine' w_iteF ?f1 ?_); case f1 => (first | (intro h; cases h; done) | decide))
  | ((with_reducible refine' w_iteT ?f1 ?_); case f1 => rfl)
  | ((with_reducible refine' w_iteNF ?f1 ?_); case f1 => rfl)
  | ((with_reducible refine' w_iteNT ?f1 ?_); case f1 => (first | (intro h; cases h; done) | decide))
  | ((with_reducible refine' c_isi ?t1 ?k1 ?_); (case t1 => walk_at "ty"); (case k1 => walk_at "kit"))
  | ((with_reducible refine' w_eq ?e1 ?_); case e1 => rfl)
  | ((with_reducible refine' w_ne ?e1 ?_); case e1 => rfl)
  | walk_at "u1")
local macro_rules | `(tactic| walk_at "s") => `(tactic| repeat walk_at "s1")
local macro_rules | `(tactic| walk_at "mem") => `(tactic| first | with_reducible exact List.mem_cons_self .. | ((with_reducible refine' List.mem_cons_of_mem _ ?q); (case q => walk_at "mem")) | assumption | ((with_reducible refine' List.mem_append_right _ ?q); (case q => walk_at "mem")) | (exact List.mem_append_left _ (by assumption)))
local macro_rules | `(tactic| walk_at "pk") => `(tactic| first | with_reducible exact Pk.here | ((with_reducible refine' Pk.there ?q); (case q => walk_at "pk")) | ((with_reducible refine' Pk.app ?q); (case q => walk_at "pk")))
local macro_rules | `(tactic| walk_at "pkb") => `(tactic| first | with_reducible exact PkB.here | ((with_reducible refine' PkB.there ?q); (case q => walk_at "pkb")) | ((with_reducible refine' PkB.app ?q); (case q => walk_at "pkb")))
local macro_rules | `(tactic| walk_at "spl") => `(tactic| first | with_reducible exact Spl.nil | ((with_reducible refine' Spl.cons ?h ?t); (case h => walk_at "pk"); (case t => walk_at "spl")) | ((with_reducible refine' Spl.blk ?h ?t); (case h => walk_at "pkb"); (case t => walk_at "spl")))
local macro_rules | `(tactic| walk_at "sbx") => `(tactic| first | with_reducible exact Sb.refl | with_reducible exact Sb.nil | with_reducible exact Sb.left | ((with_reducible refine' Sb.cons ?h ?t); (case h => walk_at "pk"); (case t => walk_at "sbx")) | ((with_reducible refine' Sb.blk ?h ?t); (case h => walk_at "pkb"); (case t => walk_at "sbx")) | ((with_reducible refine' Sb.drop ?q); (case q => walk_at "sbx")) | ((with_reducible refine' Sb.right ?q); (case q => walk_at "sbx")))
local macro_rules | `(tactic| walk_at "hd") => `(tactic| first | assumption | exact Hd.sb (by assumption) (by walk_at "sbx"))
local macro_rules | `(tactic| walk_at "sq") => `(tactic| first
  | assumption
  | exact Hd.sqL (by assumption) (by walk_at "mem")
  | exact Hd.sqT (by assumption) (by walk_at "mem")
  | exact Hd.sqF (by assumption) (by walk_at "mem")
  | (refine .inl ?_; walk_at "sq")
  | (refine .inr ?_; walk_at "sq"))
local macro_rules | `(tactic| walk_at "at") => `(tactic| first | rfl | assumption | exact atI_nat (by assumption))
local macro_rules | `(tactic| walk_at "dn1") => `(tactic| first
  | exact Dn.int | exact Dn.str | exact Dn.non | exact Dn.bl | assumption
  | ((refine' Dn.tp ?a1 ?m1 ?l1 ?p1); (case a1 => assumption); (case m1 => walk_at "mem"); (case l1 => (simp only [List.length_cons, List.length_nil]; omega)); (case p1 => walk_at "dns"))
  | ((refine' Dn.lt ?a1 ?m1 ?l1 ?p1); (case a1 => assumption); (case m1 => walk_at "mem"); (case l1 => (simp only [List.length_cons, List.length_nil]; omega)); (case p1 => walk_at "dns")))
local macro_rules | `(tactic| walk_at "dns") => `(tactic| first | exact Paired.nil | exact Dn.ints | ((refine' Paired.cons ?a1 ?b1); (case a1 => walk_at "dn1"); (case b1 => walk_at "dns")))
local macro_rules | `(tactic| walk_at "g1") => `(tactic| first
  | ((with_reducible refine' g_ixI ?h1 ?h2 ?h3 ?_); (case h1 => assumption); (case h2 => walk_at "mem"); (case h3 => omega); intro z hz)
  | ((with_reducible refine' g_ixIT ?h1 ?h2 ?h3 ?_); (case h1 => assumption); (case h2 => walk_at "mem"); (case h3 => omega); intro z hz)
  | ((with_reducible refine' g_setI ?h1 ?h2 ?h3 ?_); (case h1 => assumption); (case h2 => walk_at "pk"); (case h3 => omega); intro H2 hh2)
  | ((with_reducible refine' w_ixL ?h1 ?h2 ?_); (case h1 => walk_at "sq"); (case h2 => walk_at "at"))
  | ((with_reducible refine' w_ixT ?h1 ?h2 ?_); (case h1 => walk_at "sq"); (case h2 => walk_at "at"))
  | ((with_reducible refine' w_ixAny ?h1 ?h2 ?_); (case h1 => walk_at "sq"); (case h2 => walk_at "at"))
  | ((with_reducible refine' c_lenA ?h1 ?_); (case h1 => walk_at "sq"))
  | ((with_reducible refine' c_isi ?t1 ?k1 ?_); (case t1 => first | exact ty_T (by walk_at "sq") | exact ty_L (by walk_at "sq")); (case k1 => walk_at "kit"))
  | ((with_reducible refine' g_lst ?h1 ?h2 ?_); (case h1 => assumption); (case h2 => walk_at "sz"); intro p H2 hh2)
  | ((with_reducible refine' g_tup ?h1 ?h2 ?_); (case h1 => assumption); (case h2 => walk_at "sz"); intro p H2 hh2)
  | ((with_reducible refine' g_dict ?h1 ?_); (case h1 => assumption); intro p H2 hh2)
  | ((with_reducible refine' g_listL ?h1 ?h2 ?_); (case h1 => assumption); (case h2 => walk_at "sq"); intro p H2 hh2)
  | ((with_reducible refine' g_listT ?h1 ?h2 ?_); (case h1 => assumption); (case h2 => walk_at "sq"); intro p H2 hh2)
  | ((with_reducible refine' g_tupL ?h1 ?h2 ?_); (case h1 => assumption); (case h2 => walk_at "sq"); intro p H2 hh2)
  | ((with_reducible refine' g_set ?h1 ?h2 ?h3 ?_); (case h1 => assumption); (case h2 => walk_at "pk"); (case h3 => first | rfl | assumption | exact Evl.ixN_nat (by first | omega | (simp only [List.length_cons, List.length_nil]; omega))); intro H2 hh2)
  | ((with_reducible refine' g_kbm ?h1 ?h2 ?_); (case h1 => assumption); (case h2 => walk_at "mem"))
  | ((with_reducible refine' g_kbm0 ?h1 ?h2 ?_); (case h1 => assumption); (case h2 => walk_at "mem"))
  | ((with_reducible refine' g_app ?h1 ?h2 ?h3 ?_); (case h1 => assumption); (case h2 => walk_at "pk"); (case h3 => walk_at "sz"); intro H2 hh2)
  | ((with_reducible refine' g_kapp ?h1 ?h2 ?h3 ?_); (case h1 => assumption); (case h2 => walk_at "pk"); (case h3 => walk_at "sz"); intro H2 hh2)
  | ((with_reducible refine' g_fld ?h1 ?h2 ?h3 ?h4 ?h5 ?_); (case h1 => assumption); (case h2 => walk_at "mem"); (case h3 => assumption); (case h4 => assumption); (case h5 => rfl))
  | ((with_reducible refine' g_sfld ?h1 ?h2 ?h3 ?h4 ?h5 ?_); (case h1 => assumption); (case h2 => walk_at "pk"); (case h3 => assumption); (case h4 => assumption); (case h5 => decide); intro H2 hh2)
  | ((with_reducible refine' g_meth ?h1 ?h2 ?h3 ?_); (case h1 => assumption); (case h2 => walk_at "mem"); (case h3 => rfl))
  | ((with_reducible refine' g_prop ?h1 ?h2 ?_); (case h1 => assumption); (case h2 => walk_at "mem"))
  | ((with_reducible refine' g_make ?h1 ?_); (case h1 => assumption); intro x H2 hh2)
  | ((with_reducible refine' g_cat ?h1 ?h2 ?h3 ?h4 ?_); (case h1 => assumption); (case h2 => walk_at "mem"); (case h3 => walk_at "mem"); (case h4 => walk_at "sz"); intro p H2 hh2)
  | ((with_reducible refine' g_inT ?h1 ?h2 ?h3 ?h4 ?h5 ?_); (case h1 => assumption); (case h2 => walk_at "mem"); (case h3 => rfl); (case h4 => rfl); (case h5 => rfl)))
local macro_rules | `(tactic| walk_at "gs") => `(tactic| repeat first | walk_at "s1" | walk_at "g1")
local macro_rules | `(tactic| walk_at "ite") => `(tactic| first
  | ((with_reducible refine' w_iteT ?h1 ?_); (case h1 => omega))
  | ((with_reducible refine' w_iteF ?h1 ?_); (case h1 => omega))
  | (with_reducible refine w_ite ?_ ?_ <;> intro hq)
  | ((with_reducible refine' w_iteNT ?h1 ?_); (case h1 => omega))
  | ((with_reducible refine' w_iteNF ?h1 ?_); (case h1 => omega))
  | (with_reducible refine w_iteN ?_ ?_ <;> intro hq))
local macro_rules | `(tactic| walk_at "go") => `(tactic| repeat' first | walk_at "s1" | walk_at "g1" | walk_at "ite")
local macro_rules | `(tactic| walk_at "g1") => `(tactic| first | with_reducible refine w_din ?_ | with_reducible refine w_dnotin ?_ | with_reducible refine w_dget ?_ | with_reducible refine w_dput ?_ | with_reducible refine w_ddel ?_ | with_reducible refine w_dpop ?_)
section
variable {P : Program} {w : World} {K : PySem.W.Frag} {mg : Str → Option Value} {base : Heap} {aREG aOPS : Addr}
/-! ### pick -/
def rdyB (S : AgS) (k : Nat) : Bool := ((S k).map (·.ready)).getD false
abbrev readyL (S : AgS) : List Nat := (keys8 S).filter (rdyB S)
def stdS (S : AgS) (k : Nat) : Int := ((S k).map stdI).getD 0
/-- the one that pick picks -/
def IsPick (S : AgS) (p : Nat) : Prop := p ∈ readyL S ∧ ∀ q ∈ readyL S, stdS S q ≤ stdS S p ∧ (q < p → stdS S q < stdS S p)
def agedM (m : Mb) : Mb := { m with age := m.age + 1 }
/-- the ages of those in T are one greater -/
def agedS (S : AgS) (T : List Nat) : AgS := fun k => if k ∈ T then (S k).map agedM else S k
def pickS (S : AgS) (p : Nat) : AgS := upS (agedS S (readyL S)) p ((S p).map fun m => { m with age := 0 })
theorem ready_mem {S : AgS} {k : Nat} : k ∈ readyL S ↔ k < 8 ∧ ∃ m, S k = some m ∧ m.ready = true := by
  unfold readyL rdyB
  rw [List.mem_filter, keysS_mem]
  constructor
  · rintro ⟨⟨h1, h2⟩, h3⟩
    obtain ⟨m, hm⟩ := Option.isSome_iff_exists.mp h2
    rw [hm] at h3
    exact ⟨h1, m, hm, h3⟩
  · rintro ⟨h1, m, hm, h3⟩
    rw [hm]
    exact ⟨⟨h1, rfl⟩, h3⟩
theorem ready_asc (S : AgS) : (readyL S).Pairwise (· < ·) := keysS_asc.sublist List.filter_sublist
theorem keys_len (S : AgS) : (keys8 S).length ≤ 8 := by
  show ((List.range 8).filter fun k => (S k).isSome).length ≤ 8
  exact Nat.le_trans (List.length_filter_le _ _) (by rw [List.length_range]; exact Nat.le_refl _)
theorem asc_at {xs : List Nat} (h : xs.Pairwise (· < ·)) {i j a b : Nat} (hi : xs[i]? = some a) (hj : xs[j]? = some b) : i < j ↔ a < b := by
  obtain ⟨h1, e1⟩ := List.getElem?_eq_some_iff.mp hi
  obtain ⟨h2, e2⟩ := List.getElem?_eq_some_iff.mp hj
  have key := List.pairwise_iff_getElem.mp h
  constructor
  · intro hlt
    have := key i j h1 h2 hlt
    omega
  · intro hlt
    rcases Nat.lt_trichotomy i j with z | z | z
    · exact z
    · subst z; omega
    · have := key j i h2 h1 z
      omega
theorem aged_snoc {S : AgS} {T : List Nat} {k : Nat} {m : Mb} (h : S k = some m) (n : k ∉ T) : upS (agedS S T) k (some (agedM m)) = agedS S (T ++ [k]) := funext fun j => by
  unfold upS agedS
  by_cases e : j = k
  · subst e
    rw [if_pos rfl, if_pos (List.mem_append_right _ (List.mem_singleton.mpr rfl)), h]
    rfl
  · rw [if_neg e]
    by_cases t : j ∈ T
    · rw [if_pos t, if_pos (List.mem_append_left _ t)]
    · rw [if_neg t, if_neg fun z => (List.mem_append.mp z).elim t fun z => e (List.mem_singleton.mp z)]
theorem aged_nil (S : AgS) : agedS S [] = S := funext fun j => if_neg (List.not_mem_nil)
theorem w_ckw {r : List V → List V → Hp → VK → Prop} {t tk : TA} {σ : L2.St} {H : Hp} {Q : VK} (h : t σ H fun vs H1 => tk σ H1 fun zs H2 => r vs zs H2 Q) : tCKw r t tk σ H Q := h
theorem w_bnd {C : Addr} {m : Str} {g : Addr} {ta : TE} {σ : L2.St} {H : Hp} {Q : VK} (h : ta σ H fun x H1 => ∃ a dx fs, x = .ref a ∧ H1 a = some (.ins C dx fs) ∧ fs.lookup m = none ∧ ∀ p, H1 p = none → Q (.ref p) (upd H1 p (.met g a))) : tBnd C m g ta σ H Q := h
section
variable {C : Addr}
def sp_pickA (C : Addr) : Sp := fun vs H Q _ => ∃ (o : Addr) (S : AgS) (Z R : List Cell), vs = [.ref o] ∧ AgB C o S Z ∧ Hd H (Z ++ R) ∧ (readyL S = [] → ∀ H', Hd H' (Z ++ R) → Q .non H') ∧ ∀ (p : Nat) Z' H', IsPick S p → AgB C o (pickS S p) Z' → Hd H' (Z' ++ R) → Q (.int p) H'
theorem c_pickA {g : Addr} (T : Txt K mg aREG aOPS) (L : AgC K C) (d : MetAt K C "pick" "Ages.pick" s_Ages__pick) (Fst : FnR P w K mg base C8.CX0 3 g (sp_mbI C stdI)) (hbm : BMeth K C "_standing" g) : C8.Met P w K mg base 5 C "pick" (sp_pickA C) [] := by
  refine mkM d sc_Ages__pick (fun _ _ _ _ _ _ us hl => match us, hl with | [_], _ => rfl) (fun vs H Q E h => ?_) (fun fa cdv A outer s H vs Q E hr h => ?_)
  · obtain ⟨o, S, Z, R, rfl, _⟩ := h
    rfl
  · obtain ⟨o, S, Z, R, rfl, hb, hh, q0, q⟩ := h
    have hu : (A.deeper (envOfC "Ages.pick" (defScope s_Ages__pick) s.heap.objs.size fa cdv)).units + 1 < cLine := by have := hr.un; omega
    have hcl : Cls K C := L.cl
    refine ⟨_, (pss_cons (ps_setLc (i := 2) (own := [("pid", 1)]) rfl sc_Ages__pick.nd rfl rfl (sw_true rfl rfl rfl (by decide +kernel)) (pi_list (pe_callB cr_sorted (by rfl) T.b_sorted (by decide +kernel) (pa_cons (pe_callTy (call_list_dK rfl) (by rfl) T.b_list (by decide +kernel) (pa_cons (pe_fld (pv 0) rfl) pa_nil)) pa_nil))) (blkOk_by (own := [("pid", 1)]) (N := nm_Ages__pick) (sc := defScope s_Ages__pick) (by decide +kernel)) (fun _ _ _ _ _ => (pg_name (i := 1) sc_Ages__pick.nd rfl (Or.inl rfl))) (fun _ _ _ _ _ => (pts_one (pt_val (pe_ix (show IxR _ (rIxL K) from ix_list) (pe_dget hu (show PE _ _ (tFld K (tVar 0) (Str.ofString "_members")) from pe_fld (pv 0) rfl) (pv 1) (fun _ _ => rfl)) pe_int (fun _ _ => rfl))))) (fun _ _ _ _ _ => (pv 1)))
  (pss_cons (ps_if (pt_not (pt_truth (pv 2) (by intro _; rfl)))
    (pss_one (ps_ret pe_non))
    pss_nil)
  (pss_cons (ps_set (i := 3) sc_Ages__pick.nd rfl (Or.inl rfl) (pe_callBK (cr_maxK Fst (hr.mono (by first | decide | omega))) (by rfl) T.b_max (by decide +kernel) (pa_cons (pv 2) pa_nil) (pk_cons (Wk.pe_bnd hcl hbm (pv 0)) pk_nil)))
  (pss_cons (ps_for PassesOwn.never rfl (pi_list (pv 2)) (pg_name (i := 1) sc_Ages__pick.nd rfl (Or.inl rfl))
    (pss_one (ps_augS (pe_dget hu (show PE _ _ (tFld K (tVar 0) (Str.ofString "_members")) from pe_fld (pv 0) rfl) (pv 1) (fun _ _ => rfl)) pe_int Wk.get_list pe_int ip_add set_list)))
  (pss_cons (ps_asg pe_int (pg_sub (pe_dget hu (show PE _ _ (tFld K (tVar 0) (Str.ofString "_members")) from pe_fld (pv 0) rfl) (pv 3) (fun _ _ => rfl)) pe_int set_list))
  (pss_one (ps_ret (pv 3)))))))), ?_⟩
    have hc := L.cl
    have nm := L.nm
    have hb2 := hb
    obtain ⟨d, Z1, tb, rfl⟩ := hb
    have h1 : Hd H (agI o C d :: (Z1 ++ R)) := hh
    have hkl := keys_len S
    walk_at "gs"
    refine g_keys tb (by decide) h1 (fun kv X e => by rw [e]; exact List.mem_cons_of_mem _ (List.mem_cons_self ..)) fun p H2 h2 => ?_
    walk_at "gs"
    refine g_lcLF h2 (h2.sqL (List.mem_cons_self ..)) (fun i D H => Hd H (lstC D (natV (((keys8 S).take i).filter (rdyB S))) :: lstC p (natV (keys8 S)) :: (agI o C d :: (Z1 ++ R)))) (fun D H1 h1 => h1) (fun i D H _ h => h.sqL (by walk_at "mem")) ?_ ?_
    · rintro i x D H3 hx h3
      unfold natV at hx
      rw [List.getElem?_map] at hx
      cases hw : (keys8 S)[i]? with
      | none => rw [hw] at hx; cases hx
      | some k =>
        rw [hw] at hx
        cases hx
        have hks := (keysS_mem.mp (List.mem_of_getElem? hw)).2
        obtain ⟨m, hm⟩ : ∃ m, S k = some m := Option.isSome_iff_exists.mp hks
        obtain ⟨ad, kv, X, hv, op, _⟩ := tb.open hm
        have h4 : Hd H3 (dctC d kv :: lstC ad (mbV m) :: (X ++ (lstC D (natV (((keys8 S).take i).filter (rdyB S))) :: lstC p (natV (keys8 S)) :: (agI o C d :: R)))) := (op _ _).mp (Hd.sb h3 (by walk_at "sbx"))
        have hfl : (((keys8 S).take i).filter (rdyB S)).length ≤ 8 := Nat.le_trans (List.length_filter_le _ _) (Nat.le_trans (List.length_take_le' ..) hkl)
        have hsz : (natV (((keys8 S).take i).filter (rdyB S))).length < sizeLine := by rw [natV_len]; exact Nat.lt_of_le_of_lt hfl (by decide)
        have e1 : ((keys8 S).take (i + 1)).filter (rdyB S) = ((keys8 S).take i).filter (rdyB S) ++ [k].filter (rdyB S) := by rw [tk_succ hw, List.filter_append]
        have e2 : rdyB S k = m.ready := by unfold rdyB; rw [hm]; rfl
        clear h1 h2
        walk_at "gs"
        refine g_dget (k := .inl (k : Int)) h4 (by walk_at "mem") rfl hv ?_
        walk_at "gs"
        rw [e1]
        rw [show [k].filter (rdyB S) = if m.ready = true then [k] else [] by rw [List.filter_cons, e2]; rfl]
        cases hr2 : m.ready with
        | true =>
          rw [if_pos rfl, if_pos rfl]
          walk_at "gs"
          show KApp D _ (V.int (k : Int)) H3
          refine w_kapp (h4.lst (by walk_at "mem")) hsz fun H5 c5 => ?_
          have h5 := h4.chgL (by walk_at "pk") c5
          have e3 : natV (((keys8 S).take i).filter (rdyB S) ++ [k]) = natV (((keys8 S).take i).filter (rdyB S)) ++ [V.int (k : Int)] := List.map_append
          rw [e3]
          have h5 : Hd H5 (lstC D (natV (((keys8 S).take i).filter (rdyB S)) ++ [V.int (k : Int)]) :: dctC d kv :: lstC ad (mbV m) :: (X ++ (lstC p (natV (keys8 S)) :: agI o C d :: R))) := Hd.sb h5 (by walk_at "sbx")
          have h6 := (op H5 (lstC D (natV (((keys8 S).take i).filter (rdyB S)) ++ [V.int (k : Int)]) :: lstC p (natV (keys8 S)) :: agI o C d :: R)).mpr (Hd.sb h5 (by walk_at "sbx"))
          exact Hd.sb h6 (by walk_at "sbx")
        | false =>
          rw [if_neg (by decide), if_neg (by decide), List.append_nil]
          exact h3
    · intro D H3 h3
      rw [natV_len, List.take_length] at h3
      have h3 : Hd H3 (lstC D (natV (readyL S)) :: lstC p (natV (keys8 S)) :: agI o C d :: (Z1 ++ R)) := h3
      walk_at "gs"
      cases hrl : readyL S with
      | nil =>
        rw [hrl] at h3
        refine ⟨false, .inl ⟨_, h3.sqL (List.mem_cons_self ..), rfl⟩, ?_⟩
        walk_at "gs"
        exact q0 hrl _ (show Hd H3 (agI o C d :: (Z1 ++ R)) from Hd.sb h3 (by walk_at "sbx"))
      | cons z zs =>
        have hlen : 0 < (natV (readyL S)).length := by rw [hrl]; exact Nat.succ_pos _
        refine ⟨true, .inl ⟨_, h3.sqL (List.mem_cons_self ..), by rw [hrl]; rfl⟩, ?_⟩
        walk_at "gs"
        have hat : ∀ (i : Nat) (v : V), (natV (readyL S))[i]? = some v → ∃ (k : Nat) (m : Mb), (readyL S)[i]? = some k ∧ v = .int (k : Int) ∧ S k = some m := fun i v hv => by
          unfold natV at hv
          rw [List.getElem?_map] at hv
          cases hw : (readyL S)[i]? with
          | none => rw [hw] at hv; cases hv
          | some k =>
            rw [hw] at hv
            obtain ⟨m, hm, _⟩ := (ready_mem.mp (List.mem_of_getElem? hw)).2
            exact ⟨k, m, rfl, (Option.some.inj hv).symm, hm⟩
        obtain ⟨dx, hdx⟩ := h3.ins (a := o) (C := C) (fs := [("_members", .ref d)]) (by walk_at "mem")
        refine w_ckw ?_
        walk_at "gs"
        refine w_bnd ?_
        walk_at "gs"
        refine ⟨o, dx, _, rfl, hdx, rfl, fun b hb0 => ?_⟩
        walk_at "gs"
        have h4 : Hd (upd H3 b (.met g o)) ((b, fun o' => o' = .met g o) :: lstC D (natV (readyL S)) :: lstC p (natV (keys8 S)) :: agI o C d :: (Z1 ++ R)) := h3.new (New.of (o := .met g o) hb0) rfl
        refine ⟨D, b, o, natV (readyL S), fun i => stdS S ((readyL S).getD i 0), rfl, rfl, h4.sqL (by walk_at "mem"), hlen, upd_same, fun i v hv Q' hq => ?_, fun i v hv hmx => ?_⟩
        · obtain ⟨k, m, hk, rfl, hm⟩ := hat i v hv
          refine g_mbI hb2 hm (show Hd _ (agI o C d :: (Z1 ++ ((b, fun o' => o' = .met g o) :: lstC D (natV (readyL S)) :: lstC p (natV (keys8 S)) :: R))) from Hd.sb h4 (by walk_at "sbx")) ?_
          have e : stdS S ((readyL S).getD i 0) = stdI m := by
            rw [List.getD_eq_getElem?_getD, hk]
            unfold stdS
            rw [Option.getD_some, hm]
            rfl
          exact e ▸ hq
        · obtain ⟨k, m, hk, rfl, hm⟩ := hat i v hv
          have hpick : IsPick S k := by
            refine ⟨List.mem_of_getElem? hk, fun q hq => ?_⟩
            obtain ⟨j, hj⟩ := List.getElem?_of_mem hq
            have hjl : j < (natV (readyL S)).length := by rw [natV_len]; exact (List.getElem?_eq_some_iff.mp hj).1
            have h5 := hmx j hjl
            have ek : (readyL S).getD i 0 = k := by rw [List.getD_eq_getElem?_getD, hk]; rfl
            have ej : (readyL S).getD j 0 = q := by rw [List.getD_eq_getElem?_getD, hj]; rfl
            simp only [ek, ej] at h5
            exact ⟨h5.1, fun hlt => h5.2 ((asc_at (ready_asc S) hj hk).mpr hlt)⟩
          generalize upd H3 b (HO.met g o) = H4 at h4 ⊢
          have h5 : Hd H4 ((agI o C d :: Z1) ++ (lstC D (natV (readyL S)) :: R)) := show Hd H4 (agI o C d :: (Z1 ++ (lstC D (natV (readyL S)) :: R))) from Hd.sb h4 (by walk_at "sbx")
          clear h1 h2 h3 h4
          walk_at "gs"
          refine l_list (h5.sqL (by walk_at "mem")) (fun i σ H => ∃ (v1 : Option V) (Z' : List Cell), σ = [some (.ref o), v1, some (.ref D), some (.int (k : Int))] ∧ AgB C o (agedS S ((readyL S).take i)) Z' ∧ Hd H (Z' ++ (lstC D (natV (readyL S)) :: R))) ⟨_, _, rfl, (aged_nil S).symm ▸ hb2, h5⟩ (fun i σ H _ h => by obtain ⟨_, _, _, _, h⟩ := h; exact h.sqL (by walk_at "mem")) ?_ ?_
          · rintro i y σ H6 hy ⟨v1, Z', rfl, hb6, h6⟩
            obtain ⟨k', m', hk', rfl, hm'⟩ := hat i y hy
            have hnt : k' ∉ (readyL S).take i := fun z => by
              obtain ⟨j, hj⟩ := List.getElem?_of_mem z
              rw [List.getElem?_take] at hj
              by_cases hji : j < i
              · rw [if_pos hji] at hj
                exact absurd ((asc_at (ready_asc S) hj hk').mp hji) (Nat.lt_irrefl _)
              · rw [if_neg hji] at hj
                cases hj
            have hmk : agedS S ((readyL S).take i) k' = some m' := by unfold agedS; rw [if_neg hnt, hm']
            have hlt := hb6.lt hmk
            obtain ⟨d', ad, kv, X, hv', op, cl⟩ := hb6.open hmk
            have h7 := (op _ _).mp h6
            walk_at "gs"
            refine g_dget (k := .inl (k' : Int)) h7 (by walk_at "mem") rfl hv' ?_
            walk_at "gs"
            rename_i H8 h8
            obtain ⟨Z'', hb7, cl'⟩ := cl (agedM m')
            rw [aged_snoc hm' hnt, ← tk_succ hk'] at hb7
            refine ⟨_, Z'', rfl, hb7, cl' _ _ (Hd.sb (hdCast (c' := lstC ad (mbV (agedM m'))) h8 rfl) (by walk_at "sbx"))⟩
          · rintro σ H6 ⟨v1, Z', rfl, hb6, h6⟩
            rw [natV_len, List.take_length] at hb6
            have hmk : agedS S (readyL S) k = some (agedM m) := by unfold agedS; rw [if_pos hpick.1, hm]; rfl
            have hlt := hb6.lt hmk
            obtain ⟨d', ad, kv, X, hv', op, cl⟩ := hb6.open hmk
            have h7 := (op _ _).mp h6
            walk_at "gs"
            refine g_dget (k := .inl (k : Int)) h7 (by walk_at "mem") rfl hv' ?_
            walk_at "gs"
            rename_i H8 h8
            obtain ⟨Z'', hb7, cl'⟩ := cl { m with age := 0 }
            have e9 : upS (agedS S (readyL S)) k (some { m with age := 0 }) = pickS S k := by unfold pickS; rw [hm]; rfl
            rw [e9] at hb7
            have h9 := cl' H8 (lstC D (natV (readyL S)) :: R) (Hd.sb (hdCast (c' := lstC ad (mbV { m with age := 0 })) h8 rfl) (by walk_at "sbx"))
            exact q k Z'' H8 hpick hb7 (Hd.sb h9 (by walk_at "sbx"))
end
end
end K23
set_option Elab.async false
set_option linter.all false
set_option maxRecDepth 100000
set_option maxHeartbeats 4000000
namespace K23
open PySem PySem.Spec PyProof.Rows L2 Wk
local macro_rules | `(tactic| walk_at "u1") => `(tactic| fail "no more")
local macro_rules | `(tactic| walk_at "pos") => `(tactic| first | assumption | omega | decide | (simp only [Int.ofNat_eq_natCast] at *; omega))
local macro_rules | `(tactic| walk_at "sz") => `(tactic| first
  | (simp only [List.length_cons, List.length_nil]; decide)
  | exact Evl.sz_of (by omega)
  | exact Evl.sz_lt (by omega)
  | exact Evl.sz_of (by simp only [List.length_map, List.length_append, List.length_cons, List.length_nil, List.length_replicate]; omega)
  | exact Evl.sz_lt (by simp only [List.length_map, List.length_append, List.length_cons, List.length_nil, List.length_replicate]; omega))
local macro_rules | `(tactic| walk_at "cond") => `(tactic| first
  | exact Or.inr ⟨by decide, by decide⟩
  | (show (0 : Int) < _; first | decide | assumption | omega)
  | exact Or.inl ⟨by omega, by omega⟩
  | exact Or.inr ⟨by omega, by omega⟩
  | exact ⟨by decide, by decide, by decide⟩
  | exact log2_lt (by omega) (by omega)
  | exact ⟨by omega, by omega⟩)
local macro_rules | `(tactic| walk_at "ty") => `(tactic| first
  | exact ty_int | exact ty_bl | exact ty_str | exact ty_non
  | exact ty_L (by assumption) | exact ty_T (by assumption)
  | exact ty_L (SqL.of (by assumption)) | exact ty_T (SqT.of (by assumption)))
local macro_rules | `(tactic| walk_at "kit") => `(tactic| first
  | exact k_ii | exact k_ib | exact k_is | exact k_il | exact k_it
  | exact k_bb | exact k_bi | exact k_bs | exact k_bl | exact k_bt
  | exact k_ss | exact k_sb | exact k_si | exact k_sl | exact k_st
  | exact k_ll | exact k_lb | exact k_li | exact k_ls | exact k_lt
  | exact k_tt | exact k_tb | exact k_ti | exact k_ts | exact k_tl
  | exact k_nn | exact k_ni | exact k_ns | exact k_nl | exact k_nt)
local macro_rules | `(tactic| walk_at "s1") => `(tactic| first
  | with_reducible refine w_seq ?_
  | with_reducible refine w_set ?_
  | with_reducible refine w_op ?_
  | ((with_reducible refine' w_var ?h1 ?_); (case h1 => rfl))
  | with_reducible refine w_c ?_
  | with_reducible refine w_cb ?_
  | with_reducible refine w_cons ?_
  | with_reducible refine w_nil ?_
  | with_reducible refine w_I0 ?_
  | ((with_reducible refine' w_I ?c1 ?_); case c1 => walk_at "cond")
  | with_reducible refine w_ret ?_
  | with_reducible refine w_next ?_
  | with_reducible refine w_ifS ?_
  | with_reducible refine w_test ?_
  | with_reducible refine w_tB ?_
  | with_reducible refine w_k ?_
  | with_reducible refine w_eqI ?_
  | with_reducible refine w_neI ?_
  | with_reducible refine w_eqS ?_
  | with_reducible refine w_neS ?_
  | with_reducible refine w_and ?_
  | with_reducible refine w_or ?_
  | with_reducible refine w_not ?_
  | with_reducible refine w_andV ?_
  | with_reducible refine w_orV ?_
  | with_reducible refine w_notV ?_
  | with_reducible refine w_ifE ?_
  | with_reducible refine w_true ?_
  | with_reducible refine w_false ?_
  | with_reducible refine w_ntrue ?_
  | with_reducible refine w_nfalse ?_
  | with_reducible refine w_call ?_
  | with_reducible refine c_int ?_
  | with_reducible refine c_abs ?_
  | with_reducible refine c_max ?_
  | with_reducible refine c_min ?_
  | with_reducible refine w_drop ?_
  | with_reducible refine w_sfld ?_
  | with_reducible refine w_meth ?_
  | with_reducible refine w_make ?_
  | with_reducible refine w_prop ?_
  | with_reducible refine w_callK ?_
  | with_reducible refine w_callN ?_
  | with_reducible refine w_star ?_
  | with_reducible refine w_gcons ?_
  | with_reducible refine w_gname ?_
  | with_reducible refine w_gnil ?_
  | with_reducible refine w_retN ?_
  | with_reducible refine w_tup ?_
  | with_reducible refine w_lst ?_
  | with_reducible refine w_fld ?_
  | with_reducible refine w_bm ?_
  | with_reducible refine w_bm0 ?_
  | with_reducible refine w_forL ?_
  | with_reducible refine w_forT ?_
  | with_reducible refine w_forS ?_
  | with_reducible refine w_forR ?_
  | with_reducible refine w_lcR ?_
  | with_reducible refine w_lcL ?_
  | with_reducible refine w_lcT ?_
  | with_reducible refine w_isN ?_
  | with_reducible refine w_notN ?_
  | with_reducible refine w_asg ?_
  | with_reducible refine w_gsub ?_
  | ((with_reducible refine' w_aug ?h1 ?_); (case h1 => rfl))
  | with_reducible refine w_augS ?_
  | with_reducible refine w_ipI ?_
  | with_reducible refine w_un ?_
  | with_reducible refine w_U ?_
  | ((with_reducible refine' w_iteF ?f1 ?_); case f1 => (first | (intro h; cases h; done) | decide))
  | ((with_reducible refine' w_iteT ?f1 ?_); case f1 => rfl)
  | ((with_reducible refine' w_iteNF ?f1 ?_); case f1 => rfl)
  | ((with_reducible refine' w_iteNT ?f1 ?_); case f1 => (first | (intro h; cases h; done) | decide))
  | ((with_reducible refine' c_isi ?t1 ?k1 ?_); (case t1 => walk_at "ty"); (case k1 => walk_at "kit"))
  | ((with_reducible refine' w_eq ?e1 ?_); case e1 => rfl)
  | ((with_reducible refine' w_ne ?e1 ?_); case e1 => rfl)
  | walk_at "u1")
local macro_rules | `(tactic| walk_at "s") => `(tactic| repeat walk_at "s1")
local macro_rules | `(tactic| walk_at "mem") => `(tactic| first | with_reducible exact List.mem_cons_self .. | ((with_reducible refine' List.mem_cons_of_mem _ ?q); (case q => walk_at "mem")) | assumption | ((with_reducible refine' List.mem_append_right _ ?q); (case q => walk_at "mem")) | (exact List.mem_append_left _ (by assumption)))
local macro_rules | `(tactic| walk_at "pk") => `(tactic| first | with_reducible exact Pk.here | ((with_reducible refine' Pk.there ?q); (case q => walk_at "pk")) | ((with_reducible refine' Pk.app ?q); (case q => walk_at "pk")))
local macro_rules | `(tactic| walk_at "pkb") => `(tactic| first | with_reducible exact PkB.here | ((with_reducible refine' PkB.there ?q); (case q => walk_at "pkb")) | ((with_reducible refine' PkB.app ?q); (case q => walk_at "pkb")))
local macro_rules | `(tactic| walk_at "spl") => `(tactic| first | with_reducible exact Spl.nil | ((with_reducible refine' Spl.cons ?h ?t); (case h => walk_at "pk"); (case t => walk_at "spl")) | ((with_reducible refine' Spl.blk ?h ?t); (case h => walk_at "pkb"); (case t => walk_at "spl")))
local macro_rules | `(tactic| walk_at "sbx") => `(tactic| first | with_reducible exact Sb.refl | with_reducible exact Sb.nil | with_reducible exact Sb.left | ((with_reducible refine' Sb.cons ?h ?t); (case h => walk_at "pk"); (case t => walk_at "sbx")) | ((with_reducible refine' Sb.blk ?h ?t); (case h => walk_at "pkb"); (case t => walk_at "sbx")) | ((with_reducible refine' Sb.drop ?q); (case q => walk_at "sbx")) | ((with_reducible refine' Sb.right ?q); (case q => walk_at "sbx")))
local macro_rules | `(tactic| walk_at "hd") => `(tactic| first | assumption | exact Hd.sb (by assumption) (by walk_at "sbx"))
local macro_rules | `(tactic| walk_at "sq") => `(tactic| first
  | assumption
  | exact Hd.sqL (by assumption) (by walk_at "mem")
  | exact Hd.sqT (by assumption) (by walk_at "mem")
  | exact Hd.sqF (by assumption) (by walk_at "mem")
  | (refine .inl ?_; walk_at "sq")
  | (refine .inr ?_; walk_at "sq"))
local macro_rules | `(tactic| walk_at "at") => `(tactic| first | rfl | assumption | exact atI_nat (by assumption))
local macro_rules | `(tactic| walk_at "dn1") => `(tactic| first
  | exact Dn.int | exact Dn.str | exact Dn.non | exact Dn.bl | assumption
  | ((refine' Dn.tp ?a1 ?m1 ?l1 ?p1); (case a1 => assumption); (case m1 => walk_at "mem"); (case l1 => (simp only [List.length_cons, List.length_nil]; omega)); (case p1 => walk_at "dns"))
  | ((refine' Dn.lt ?a1 ?m1 ?l1 ?p1); (case a1 => assumption); (case m1 => walk_at "mem"); (case l1 => (simp only [List.length_cons, List.length_nil]; omega)); (case p1 => walk_at "dns")))
local macro_rules | `(tactic| walk_at "dns") => `(tactic| first | exact Paired.nil | exact Dn.ints | ((refine' Paired.cons ?a1 ?b1); (case a1 => walk_at "dn1"); (case b1 => walk_at "dns")))
local macro_rules | `(tactic| walk_at "g1") => `(tactic| first
  | ((with_reducible refine' g_ixI ?h1 ?h2 ?h3 ?_); (case h1 => assumption); (case h2 => walk_at "mem"); (case h3 => omega); intro z hz)
  | ((with_reducible refine' g_ixIT ?h1 ?h2 ?h3 ?_); (case h1 => assumption); (case h2 => walk_at "mem"); (case h3 => omega); intro z hz)
  | ((with_reducible refine' g_setI ?h1 ?h2 ?h3 ?_); (case h1 => assumption); (case h2 => walk_at "pk"); (case h3 => omega); intro H2 hh2)
  | ((with_reducible refine' w_ixL ?h1 ?h2 ?_); (case h1 => walk_at "sq"); (case h2 => walk_at "at"))
  | ((with_reducible refine' w_ixT ?h1 ?h2 ?_); (case h1 => walk_at "sq"); (case h2 => walk_at "at"))
  | ((with_reducible refine' w_ixAny ?h1 ?h2 ?_); (case h1 => walk_at "sq"); (case h2 => walk_at "at"))
  | ((with_reducible refine' c_lenA ?h1 ?_); (case h1 => walk_at "sq"))
  | ((with_reducible refine' c_isi ?t1 ?k1 ?_); (case t1 => first | exact ty_T (by walk_at "sq") | exact ty_L (by walk_at "sq")); (case k1 => walk_at "kit"))
  | ((with_reducible refine' g_lst ?h1 ?h2 ?_); (case h1 => assumption); (case h2 => walk_at "sz"); intro p H2 hh2)
  | ((with_reducible refine' g_tup ?h1 ?h2 ?_); (case h1 => assumption); (case h2 => walk_at "sz"); intro p H2 hh2)
  | ((with_reducible refine' g_dict ?h1 ?_); (case h1 => assumption); intro p H2 hh2)
  | ((with_reducible refine' g_listL ?h1 ?h2 ?_); (case h1 => assumption); (case h2 => walk_at "sq"); intro p H2 hh2)
  | ((with_reducible refine' g_listT ?h1 ?h2 ?_); (case h1 => assumption); (case h2 => walk_at "sq"); intro p H2 hh2)
  | ((with_reducible refine' g_tupL ?h1 ?h2 ?_); (case h1 => assumption); (case h2 => walk_at "sq"); intro p H2 hh2)
  | ((with_reducible refine' g_set ?h1 ?h2 ?h3 ?_); (case h1 => assumption); (case h2 => walk_at "pk"); (case h3 => first | rfl | assumption | exact Evl.ixN_nat (by first | omega | (simp only [List.length_cons, List.length_nil]; omega))); intro H2 hh2)
  | ((with_reducible refine' g_kbm ?h1 ?h2 ?_); (case h1 => assumption); (case h2 => walk_at "mem"))
  | ((with_reducible refine' g_kbm0 ?h1 ?h2 ?_); (case h1 => assumption); (case h2 => walk_at "mem"))
  | ((with_reducible refine' g_app ?h1 ?h2 ?h3 ?_); (case h1 => assumption); (case h2 => walk_at "pk"); (case h3 => walk_at "sz"); intro H2 hh2)
  | ((with_reducible refine' g_kapp ?h1 ?h2 ?h3 ?_); (case h1 => assumption); (case h2 => walk_at "pk"); (case h3 => walk_at "sz"); intro H2 hh2)
  | ((with_reducible refine' g_fld ?h1 ?h2 ?h3 ?h4 ?h5 ?_); (case h1 => assumption); (case h2 => walk_at "mem"); (case h3 => assumption); (case h4 => assumption); (case h5 => rfl))
  | ((with_reducible refine' g_sfld ?h1 ?h2 ?h3 ?h4 ?h5 ?_); (case h1 => assumption); (case h2 => walk_at "pk"); (case h3 => assumption); (case h4 => assumption); (case h5 => decide); intro H2 hh2)
  | ((with_reducible refine' g_meth ?h1 ?h2 ?h3 ?_); (case h1 => assumption); (case h2 => walk_at "mem"); (case h3 => rfl))
  | ((with_reducible refine' g_prop ?h1 ?h2 ?_); (case h1 => assumption); (case h2 => walk_at "mem"))
  | ((with_reducible refine' g_make ?h1 ?_); (case h1 => assumption); intro x H2 hh2)
  | ((with_reducible refine' g_cat ?h1 ?h2 ?h3 ?h4 ?_); (case h1 => assumption); (case h2 => walk_at "mem"); (case h3 => walk_at "mem"); (case h4 => walk_at "sz"); intro p H2 hh2)
  | ((with_reducible refine' g_inT ?h1 ?h2 ?h3 ?h4 ?h5 ?_); (case h1 => assumption); (case h2 => walk_at "mem"); (case h3 => rfl); (case h4 => rfl); (case h5 => rfl)))
local macro_rules | `(tactic| walk_at "gs") => `(tactic| repeat first | walk_at "s1" | walk_at "g1")
local macro_rules | `(tactic| walk_at "ite") => `(tactic| first
  | ((with_reducible refine' w_iteT ?h1 ?_); (case h1 => omega))
  | ((with_reducible refine' w_iteF ?h1 ?_); (case h1 => omega))
  | (with_reducible refine w_ite ?_ ?_ <;> intro hq)
  | ((with_reducible refine' w_iteNT ?h1 ?_); (case h1 => omega))
  | ((with_reducible refine' w_iteNF ?h1 ?_); (case h1 => omega))
  | (with_reducible refine w_iteN ?_ ?_ <;> intro hq))
local macro_rules | `(tactic| walk_at "go") => `(tactic| repeat' first | walk_at "s1" | walk_at "g1" | walk_at "ite")
local macro_rules | `(tactic| walk_at "g1") => `(tactic| first
  | ((with_reducible refine' g_take1 ?h1 ?h2 ?h3 ?h4 ?_); (case h1 => assumption); (case h2 => walk_at "spl"); (case h3 => omega); (case h4 => omega); intro k H2 hk1 hh2)
  | ((with_reducible refine' g_take ?h1 ?h2 ?h4 ?_); (case h1 => assumption); (case h2 => walk_at "spl"); (case h4 => omega); intro k H2 hk1 hh2)
  | ((with_reducible refine' g_betweenN ?h1 ?h2 ?h5 ?h3 ?h4 ?_); (case h1 => assumption); (case h2 => walk_at "spl"); (case h5 => omega); (case h3 => omega); (case h4 => omega); intro k H2 hk1 hk2 hh2)
  | ((with_reducible refine' g_between ?h1 ?h2 ?h3 ?h4 ?_); (case h1 => assumption); (case h2 => walk_at "spl"); (case h3 => omega); (case h4 => omega); intro k H2 hk1 hk2 hh2)
  | ((with_reducible refine' g_size ?h1 ?h2 ?h3 ?h4 ?_); (case h1 => assumption); (case h2 => walk_at "spl"); (case h3 => omega); (case h4 => omega); intro k H2 hk1 hh2)
  | ((with_reducible refine' g_word ?h1 ?h2 ?_); (case h1 => assumption); (case h2 => walk_at "spl"); intro k H2 hk1 hh2))
local macro_rules | `(tactic| walk_at "g1") => `(tactic| first | with_reducible refine w_sl ?_ | with_reducible refine w_part ?_ | with_reducible refine w_noPart ?_ | with_reducible refine w_exI ?_)
local macro_rules | `(tactic| walk_at "g1") => `(tactic| first | with_reducible refine w_din ?_ | with_reducible refine w_dnotin ?_ | with_reducible refine w_dget ?_ | with_reducible refine w_dput ?_ | with_reducible refine w_ddel ?_ | with_reducible refine w_dpop ?_)
section
variable {P : Program} {w : World} {K : PySem.W.Frag} {mg : Str → Option Value} {base : Heap} {aREG aOPS : Addr}
/-! ### what is done to an Ages object -/
inductive Deed where
  | enter (k p : Nat) (r : Bool)
  | pick
  | leave (k : Nat)
  | wake (k : Nat)
  | sleep (k : Nat)
  | lend (k p : Nat)
def dV : Deed → List V
  | .enter k p r => [.str "enter", .int k, .int p, .bl r]
  | .pick => [.str "pick"]
  | .leave k => [.str "leave", .int k]
  | .wake k => [.str "wake", .int k]
  | .sleep k => [.str "sleep", .int k]
  | .lend k p => [.str "lend", .int k, .int p]
/-- who is a member behind it -/
def dom1 (f : Nat → Bool) : Deed → Nat → Bool
  | .enter k _ _ => fun j => decide (j = k) || f j
  | .leave k => fun j => !decide (j = k) && f j
  | _ => f
def ok1 (f : Nat → Bool) : Deed → Prop
  | .enter k p _ => k < 8 ∧ p ≤ 7 ∧ f k = false
  | .pick => True
  | .leave k => f k = true
  | .wake k => f k = true
  | .sleep k => f k = true
  | .lend k p => p ≤ 7 ∧ f k = true
theorem natV_flat (xs : List Nat) : (natV xs).all flatV = true := by
  rw [List.all_eq_true]
  intro v hv
  unfold natV at hv
  obtain ⟨k, _, rfl⟩ := List.mem_map.mp hv
  rfl
theorem w_nin {K : PySem.W.Frag} {H : Hp} {Q : VK} {x : V} {p : Addr} {xs : List V} {b : Bool} (h : SqL K H p xs) (fx : flatV x = true) (fs : xs.all flatV = true) (e : inV x xs = b) (q : Q (.bl (!b)) H) : rIn K true x (.ref p) H Q := ⟨p, xs, rfl, .inl h, fx, fs, by rw [if_pos rfl, e]; exact q⟩
theorem inV_nat {k : Nat} {ms : List Nat} : inV (.int (k : Int)) (natV ms) = decide (k ∈ ms) := by
  unfold inV natV
  rw [List.any_map]
  rw [Bool.eq_iff_iff, List.any_eq_true, decide_eq_true_iff]
  constructor
  · rintro ⟨j, hj, e⟩
    have e : (decide ((j : Int) = (k : Int))) = true := e
    have := of_decide_eq_true e
    rw [show k = j by omega]
    exact hj
  · intro h
    exact ⟨k, h, show (decide ((k : Int) = (k : Int))) = true from decide_eq_true rfl⟩
/-- the members behind a deed that is no pick -/
def stepS (S : AgS) : Deed → AgS
  | .enter k p r => upS S k (some (newM p r))
  | .pick => S
  | .leave k => upS S k none
  | .wake k => upS S k ((S k).map wakeM)
  | .sleep k => upS S k ((S k).map sleepM)
  | .lend k p => upS S k ((S k).map fun m => { m with lent := p })
abbrev domS (S : AgS) : Nat → Bool := fun j => (S j).isSome
def Out (S : AgS) (d : Deed) (r : V) (S' : AgS) : Prop :=
  (d = .pick ∧ ((readyL S = [] ∧ r = .non ∧ S' = S) ∨ ∃ p : Nat, IsPick S p ∧ r = .int p ∧ S' = pickS S p)) ∨ (d ≠ .pick ∧ r = .non ∧ S' = stepS S d)
theorem pick_one {S : AgS} {p q : Nat} (hp : IsPick S p) (hq : IsPick S q) : p = q := by
  have h1 := hp.2 q hq.1
  have h2 := hq.2 p hp.1
  rcases Nat.lt_trichotomy p q with z | z | z
  · have := h2.2 z; omega
  · exact z
  · have := h1.2 z; omega
theorem Out.one {S S1 S2 : AgS} {d : Deed} {r1 r2 : V} (h1 : Out S d r1 S1) (h2 : Out S d r2 S2) : r1 = r2 ∧ S1 = S2 := by
  rcases h1 with ⟨e, h1⟩ | ⟨e, h1, h1'⟩ <;> rcases h2 with ⟨e2, h2⟩ | ⟨e2, h2, h2'⟩
  · rcases h1 with ⟨a, b, c⟩ | ⟨p, a, b, c⟩ <;> rcases h2 with ⟨a2, b2, c2⟩ | ⟨p2, a2, b2, c2⟩
    · exact ⟨b.trans b2.symm, c.trans c2.symm⟩
    · exact absurd a2.1 (by rw [a]; exact List.not_mem_nil)
    · exact absurd a.1 (by rw [a2]; exact List.not_mem_nil)
    · have := pick_one a a2
      subst this
      exact ⟨b.trans b2.symm, c.trans c2.symm⟩
  · exact absurd e e2
  · exact absurd e2 e
  · exact ⟨h1.trans h2.symm, h1'.trans h2'.symm⟩
theorem agedS_some (S : AgS) (T : List Nat) (j : Nat) : (agedS S T j).isSome = (S j).isSome := by
  unfold agedS
  split
  · exact Option.isSome_map
  · rfl
theorem upS_some {ρ : Type} (S : Nat → Option ρ) (k j : Nat) (f : ρ → ρ) : (upS S k ((S k).map f) j).isSome = (S j).isSome := by
  unfold upS
  split
  · rename_i h; subst h; exact Option.isSome_map
  · rfl
theorem Out.dom {S S' : AgS} {d : Deed} {r : V} (h : Out S d r S') (h1 : ok1 (domS S) d) (j : Nat) : domS S' j = dom1 (domS S) d j := by
  rcases h with ⟨rfl, ⟨_, _, rfl⟩ | ⟨p, hp, _, rfl⟩⟩ | ⟨_, _, rfl⟩
  · rfl
  · show (pickS S p j).isSome = (S j).isSome
    unfold pickS upS
    split
    · rename_i h; subst h; exact Option.isSome_map
    · exact agedS_some ..
  · cases d with
    | enter k p r =>
      show (upS S k _ j).isSome = (decide (j = k) || (S j).isSome)
      unfold upS
      split
      · rename_i e; rw [decide_eq_true e]; rfl
      · rename_i e; rw [decide_eq_false e]; rfl
    | pick => rfl
    | leave k =>
      show (upS S k _ j).isSome = (!decide (j = k) && (S j).isSome)
      unfold upS
      split
      · rename_i e; rw [decide_eq_true e]; rfl
      · rename_i e; rw [decide_eq_false e]; rfl
    | wake k => exact upS_some ..
    | sleep k => exact upS_some ..
    | lend k p => exact upS_some ..
end
end K23
set_option Elab.async false
set_option linter.all false
set_option maxRecDepth 100000
set_option maxHeartbeats 4000000
namespace K23
open PySem PySem.Spec PyProof.Rows L2 Wk
local macro_rules | `(tactic| walk_at "u1") => `(tactic| fail "no more")
local macro_rules | `(tactic| walk_at "pos") => `(tactic| first | assumption | omega | decide | (simp only [Int.ofNat_eq_natCast] at *; omega))
local macro_rules | `(tactic| walk_at "sz") => `(tactic| first
  | (simp only [List.length_cons, List.length_nil]; decide)
  | exact Evl.sz_of (by omega)
  | exact Evl.sz_lt (by omega)
  | exact Evl.sz_of (by simp only [List.length_map, List.length_append, List.length_cons, List.length_nil, List.length_replicate]; omega)
  | exact Evl.sz_lt (by simp only [List.length_map, List.length_append, List.length_cons, List.length_nil, List.length_replicate]; omega))
local macro_rules | `(tactic| walk_at "cond") => `(tactic| first
  | exact Or.inr ⟨by decide, by decide⟩
  | (show (0 : Int) < _; first | decide | assumption | omega)
  | exact Or.inl ⟨by omega, by omega⟩
  | exact Or.inr ⟨by omega, by omega⟩
  | exact ⟨by decide, by decide, by decide⟩
  | exact log2_lt (by omega) (by omega)
  | exact ⟨by omega, by omega⟩)
local macro_rules | `(tactic| walk_at "ty") => `(tactic| first
  | exact ty_int | exact ty_bl | exact ty_str | exact ty_non
  | exact ty_L (by assumption) | exact ty_T (by assumption)
  | exact ty_L (SqL.of (by assumption)) | exact ty_T (SqT.of (by assumption)))
local macro_rules | `(tactic| walk_at "kit") => `(tactic| first
  | exact k_ii | exact k_ib | exact k_is | exact k_il | exact k_it
  | exact k_bb | exact k_bi | exact k_bs | exact k_bl | exact k_bt
  | exact k_ss | exact k_sb | exact k_si | exact k_sl | exact k_st
  | exact k_ll | exact k_lb | exact k_li | exact k_ls | exact k_lt
  | exact k_tt | exact k_tb | exact k_ti | exact k_ts | exact k_tl
  | exact k_nn | exact k_ni | exact k_ns | exact k_nl | exact k_nt)
local macro_rules | `(tactic| walk_at "s1") => `(tactic| first
  | with_reducible refine w_seq ?_
  | with_reducible refine w_set ?_
  | with_reducible refine w_op ?_
  | ((with_reducible refine' w_var ?h1 ?_); (case h1 => rfl))
  | with_reducible refine w_c ?_
  | with_reducible refine w_cb ?_
  | with_reducible refine w_cons ?_
  | with_reducible refine w_nil ?_
  | with_reducible refine w_I0 ?_
  | ((with_reducible refine' w_I ?c1 ?_); case c1 => walk_at "cond")
  | with_reducible refine w_ret ?_
  | with_reducible refine w_next ?_
  | with_reducible refine w_ifS ?_
  | with_reducible refine w_test ?_
  | with_reducible refine w_tB ?_
  | with_reducible refine w_k ?_
  | with_reducible refine w_eqI ?_
  | with_reducible refine w_neI ?_
  | with_reducible refine w_eqS ?_
  | with_reducible refine w_neS ?_
  | with_reducible refine w_and ?_
  | with_reducible refine w_or ?_
  | with_reducible refine w_not ?_
  | with_reducible refine w_andV ?_
  | with_reducible refine w_orV ?_
  | with_reducible refine w_notV ?_
  | with_reducible refine w_ifE ?_
  | with_reducible refine w_true ?_
  | with_reducible refine w_false ?_
  | with_reducible refine w_ntrue ?_
  | with_reducible refine w_nfalse ?_
  | with_reducible refine w_call ?_
  | with_reducible refine c_int ?_
  | with_reducible refine c_abs ?_
  | with_reducible refine c_max ?_
  | with_reducible refine c_min ?_
  | with_reducible refine w_drop ?_
  | with_reducible refine w_sfld ?_
  | with_reducible refine w_meth ?_
  | with_reducible refine w_make ?_
  | with_reducible refine w_prop ?_
  | with_reducible refine w_callK ?_
  | with_reducible refine w_callN ?_
  | with_reducible refine w_star ?_
  | with_reducible refine w_gcons ?_
  | with_reducible refine w_gname ?_
  | with_reducible refine w_gnil ?_
  | with_reducible refine w_retN ?_
  | with_reducible refine w_tup ?_
  | with_reducible refine w_lst ?_
  | with_reducible refine w_fld ?_
  | with_reducible refine w_bm ?_
  | with_reducible refine w_bm0 ?_
  | with_reducible refine w_forL ?_
  | with_reducible refine w_forT ?_
  | with_reducible refine w_forS ?_
  | with_reducible refine w_forR ?_
  | with_reducible refine w_lcR ?_
  | with_reducible refine w_lcL ?_
  | with_reducible refine w_lcT ?_
  | with_reducible refine w_isN ?_
  | with_reducible refine w_notN ?_
  | with_reducible refine w_asg ?_
  | with_reducible refine w_gsub ?_
  | ((with_reducible refine' w_aug ?h1 ?_); (case h1 => rfl))
  | with_reducible refine w_augS ?_
  | with_reducible refine w_ipI ?_
  | with_reducible refine w_un ?_
  | with_reducible refine w_U ?_
  | ((with_reducible refine' w_iteF ?f1 ?_); case f1 => (first | (intro h; cases h; done) | decide))
  | ((with_reducible refine' w_iteT ?f1 ?_); case f1 => rfl)
  | ((with_reducible refine' w_iteNF ?f1 ?_); case f1 => rfl)
  | ((with_reducible refine' w_iteNT ?f1 ?_); case f1 => (first | (intro h; cases h; done) | decide))
  | ((with_reducible refine' c_isi ?t1 ?k1 ?_); (case t1 => walk_at "ty"); (case k1 => walk_at "kit"))
  | ((with_reducible refine' w_eq ?e1 ?_); case e1 => rfl)
  | ((with_reducible refine' w_ne ?e1 ?_); case e1 => rfl)
  | walk_at "u1")
local macro_rules | `(tactic| walk_at "s") => `(tactic| repeat walk_at "s1")
local macro_rules | `(tactic| walk_at "mem") => `(tactic| first | with_reducible exact List.mem_cons_self .. | ((with_reducible refine' List.mem_cons_of_mem _ ?q); (case q => walk_at "mem")) | assumption | ((with_reducible refine' List.mem_append_right _ ?q); (case q => walk_at "mem")) | (exact List.mem_append_left _ (by assumption)))
local macro_rules | `(tactic| walk_at "pk") => `(tactic| first | with_reducible exact Pk.here | ((with_reducible refine' Pk.there ?q); (case q => walk_at "pk")) | ((with_reducible refine' Pk.app ?q); (case q => walk_at "pk")))
local macro_rules | `(tactic| walk_at "pkb") => `(tactic| first | with_reducible exact PkB.here | ((with_reducible refine' PkB.there ?q); (case q => walk_at "pkb")) | ((with_reducible refine' PkB.app ?q); (case q => walk_at "pkb")))
local macro_rules | `(tactic| walk_at "spl") => `(tactic| first | with_reducible exact Spl.nil | ((with_reducible refine' Spl.cons ?h ?t); (case h => walk_at "pk"); (case t => walk_at "spl")) | ((with_reducible refine' Spl.blk ?h ?t); (case h => walk_at "pkb"); (case t => walk_at "spl")))
local macro_rules | `(tactic| walk_at "sbx") => `(tactic| first | with_reducible exact Sb.refl | with_reducible exact Sb.nil | with_reducible exact Sb.left | ((with_reducible refine' Sb.cons ?h ?t); (case h => walk_at "pk"); (case t => walk_at "sbx")) | ((with_reducible refine' Sb.blk ?h ?t); (case h => walk_at "pkb"); (case t => walk_at "sbx")) | ((with_reducible refine' Sb.drop ?q); (case q => walk_at "sbx")) | ((with_reducible refine' Sb.right ?q); (case q => walk_at "sbx")))
local macro_rules | `(tactic| walk_at "hd") => `(tactic| first | assumption | exact Hd.sb (by assumption) (by walk_at "sbx"))
local macro_rules | `(tactic| walk_at "sq") => `(tactic| first
  | assumption
  | exact Hd.sqL (by assumption) (by walk_at "mem")
  | exact Hd.sqT (by assumption) (by walk_at "mem")
  | exact Hd.sqF (by assumption) (by walk_at "mem")
  | (refine .inl ?_; walk_at "sq")
  | (refine .inr ?_; walk_at "sq"))
local macro_rules | `(tactic| walk_at "at") => `(tactic| first | rfl | assumption | exact atI_nat (by assumption))
local macro_rules | `(tactic| walk_at "dn1") => `(tactic| first
  | exact Dn.int | exact Dn.str | exact Dn.non | exact Dn.bl | assumption
  | ((refine' Dn.tp ?a1 ?m1 ?l1 ?p1); (case a1 => assumption); (case m1 => walk_at "mem"); (case l1 => (simp only [List.length_cons, List.length_nil]; omega)); (case p1 => walk_at "dns"))
  | ((refine' Dn.lt ?a1 ?m1 ?l1 ?p1); (case a1 => assumption); (case m1 => walk_at "mem"); (case l1 => (simp only [List.length_cons, List.length_nil]; omega)); (case p1 => walk_at "dns")))
local macro_rules | `(tactic| walk_at "dns") => `(tactic| first | exact Paired.nil | exact Dn.ints | ((refine' Paired.cons ?a1 ?b1); (case a1 => walk_at "dn1"); (case b1 => walk_at "dns")))
local macro_rules | `(tactic| walk_at "g1") => `(tactic| first
  | ((with_reducible refine' g_ixI ?h1 ?h2 ?h3 ?_); (case h1 => assumption); (case h2 => walk_at "mem"); (case h3 => omega); intro z hz)
  | ((with_reducible refine' g_ixIT ?h1 ?h2 ?h3 ?_); (case h1 => assumption); (case h2 => walk_at "mem"); (case h3 => omega); intro z hz)
  | ((with_reducible refine' g_setI ?h1 ?h2 ?h3 ?_); (case h1 => assumption); (case h2 => walk_at "pk"); (case h3 => omega); intro H2 hh2)
  | ((with_reducible refine' w_ixL ?h1 ?h2 ?_); (case h1 => walk_at "sq"); (case h2 => walk_at "at"))
  | ((with_reducible refine' w_ixT ?h1 ?h2 ?_); (case h1 => walk_at "sq"); (case h2 => walk_at "at"))
  | ((with_reducible refine' w_ixAny ?h1 ?h2 ?_); (case h1 => walk_at "sq"); (case h2 => walk_at "at"))
  | ((with_reducible refine' c_lenA ?h1 ?_); (case h1 => walk_at "sq"))
  | ((with_reducible refine' c_isi ?t1 ?k1 ?_); (case t1 => first | exact ty_T (by walk_at "sq") | exact ty_L (by walk_at "sq")); (case k1 => walk_at "kit"))
  | ((with_reducible refine' g_lst ?h1 ?h2 ?_); (case h1 => assumption); (case h2 => walk_at "sz"); intro p H2 hh2)
  | ((with_reducible refine' g_tup ?h1 ?h2 ?_); (case h1 => assumption); (case h2 => walk_at "sz"); intro p H2 hh2)
  | ((with_reducible refine' g_dict ?h1 ?_); (case h1 => assumption); intro p H2 hh2)
  | ((with_reducible refine' g_listL ?h1 ?h2 ?_); (case h1 => assumption); (case h2 => walk_at "sq"); intro p H2 hh2)
  | ((with_reducible refine' g_listT ?h1 ?h2 ?_); (case h1 => assumption); (case h2 => walk_at "sq"); intro p H2 hh2)
  | ((with_reducible refine' g_tupL ?h1 ?h2 ?_); (case h1 => assumption); (case h2 => walk_at "sq"); intro p H2 hh2)
  | ((with_reducible refine' g_set ?h1 ?h2 ?h3 ?_); (case h1 => assumption); (case h2 => walk_at "pk"); (case h3 => first | rfl | assumption | exact Evl.ixN_nat (by first | omega | (simp only [List.length_cons, List.length_nil]; omega))); intro H2 hh2)
  | ((with_reducible refine' g_kbm ?h1 ?h2 ?_); (case h1 => assumption); (case h2 => walk_at "mem"))
  | ((with_reducible refine' g_kbm0 ?h1 ?h2 ?_); (case h1 => assumption); (case h2 => walk_at "mem"))
  | ((with_reducible refine' g_app ?h1 ?h2 ?h3 ?_); (case h1 => assumption); (case h2 => walk_at "pk"); (case h3 => walk_at "sz"); intro H2 hh2)
  | ((with_reducible refine' g_kapp ?h1 ?h2 ?h3 ?_); (case h1 => assumption); (case h2 => walk_at "pk"); (case h3 => walk_at "sz"); intro H2 hh2)
  | ((with_reducible refine' g_fld ?h1 ?h2 ?h3 ?h4 ?h5 ?_); (case h1 => assumption); (case h2 => walk_at "mem"); (case h3 => assumption); (case h4 => assumption); (case h5 => rfl))
  | ((with_reducible refine' g_sfld ?h1 ?h2 ?h3 ?h4 ?h5 ?_); (case h1 => assumption); (case h2 => walk_at "pk"); (case h3 => assumption); (case h4 => assumption); (case h5 => decide); intro H2 hh2)
  | ((with_reducible refine' g_meth ?h1 ?h2 ?h3 ?_); (case h1 => assumption); (case h2 => walk_at "mem"); (case h3 => rfl))
  | ((with_reducible refine' g_prop ?h1 ?h2 ?_); (case h1 => assumption); (case h2 => walk_at "mem"))
  | ((with_reducible refine' g_make ?h1 ?_); (case h1 => assumption); intro x H2 hh2)
  | ((with_reducible refine' g_cat ?h1 ?h2 ?h3 ?h4 ?_); (case h1 => assumption); (case h2 => walk_at "mem"); (case h3 => walk_at "mem"); (case h4 => walk_at "sz"); intro p H2 hh2)
  | ((with_reducible refine' g_inT ?h1 ?h2 ?h3 ?h4 ?h5 ?_); (case h1 => assumption); (case h2 => walk_at "mem"); (case h3 => rfl); (case h4 => rfl); (case h5 => rfl)))
local macro_rules | `(tactic| walk_at "gs") => `(tactic| repeat first | walk_at "s1" | walk_at "g1")
local macro_rules | `(tactic| walk_at "ite") => `(tactic| first
  | ((with_reducible refine' w_iteT ?h1 ?_); (case h1 => omega))
  | ((with_reducible refine' w_iteF ?h1 ?_); (case h1 => omega))
  | (with_reducible refine w_ite ?_ ?_ <;> intro hq)
  | ((with_reducible refine' w_iteNT ?h1 ?_); (case h1 => omega))
  | ((with_reducible refine' w_iteNF ?h1 ?_); (case h1 => omega))
  | (with_reducible refine w_iteN ?_ ?_ <;> intro hq))
local macro_rules | `(tactic| walk_at "go") => `(tactic| repeat' first | walk_at "s1" | walk_at "g1" | walk_at "ite")
local macro_rules | `(tactic| walk_at "g1") => `(tactic| first
  | ((with_reducible refine' g_take1 ?h1 ?h2 ?h3 ?h4 ?_); (case h1 => assumption); (case h2 => walk_at "spl"); (case h3 => omega); (case h4 => omega); intro k H2 hk1 hh2)
  | ((with_reducible refine' g_take ?h1 ?h2 ?h4 ?_); (case h1 => assumption); (case h2 => walk_at "spl"); (case h4 => omega); intro k H2 hk1 hh2)
  | ((with_reducible refine' g_betweenN ?h1 ?h2 ?h5 ?h3 ?h4 ?_); (case h1 => assumption); (case h2 => walk_at "spl"); (case h5 => omega); (case h3 => omega); (case h4 => omega); intro k H2 hk1 hk2 hh2)
  | ((with_reducible refine' g_between ?h1 ?h2 ?h3 ?h4 ?_); (case h1 => assumption); (case h2 => walk_at "spl"); (case h3 => omega); (case h4 => omega); intro k H2 hk1 hk2 hh2)
  | ((with_reducible refine' g_size ?h1 ?h2 ?h3 ?h4 ?_); (case h1 => assumption); (case h2 => walk_at "spl"); (case h3 => omega); (case h4 => omega); intro k H2 hk1 hh2)
  | ((with_reducible refine' g_word ?h1 ?h2 ?_); (case h1 => assumption); (case h2 => walk_at "spl"); intro k H2 hk1 hh2))
local macro_rules | `(tactic| walk_at "g1") => `(tactic| first | with_reducible refine w_sl ?_ | with_reducible refine w_part ?_ | with_reducible refine w_noPart ?_ | with_reducible refine w_exI ?_)
local macro_rules | `(tactic| walk_at "g1") => `(tactic| first | with_reducible refine w_din ?_ | with_reducible refine w_dnotin ?_ | with_reducible refine w_dget ?_ | with_reducible refine w_dput ?_ | with_reducible refine w_ddel ?_ | with_reducible refine w_dpop ?_)
section
variable {P : Program} {w : World} {K : PySem.W.Frag} {mg : Str → Option Value} {base : Heap} {aREG aOPS : Addr}
section
variable {C : Addr}
def sp_called (K : PySem.W.Frag) (C : Addr) : Sp := fun vs H Q _ => ∃ (o t : Addr) (d : Deed) (S : AgS) (Z R : List Cell), vs = [.ref o, .ref t] ∧ tupC t (dV d) ∈ R ∧ AgB C o S Z ∧ ok1 (domS S) d ∧ Hd H (Z ++ R) ∧ ∀ r S' Z' H', Out S d r S' → AgB C o S' Z' → Hd H' (Z' ++ R) → Q r H'
theorem c_called (T : Txt K mg aREG aOPS) (L : AgC K C) (d : DefAt K mg "_law_called" s__law_called) (c_Ages_pick : C8.Met P w K mg base 5 C "pick" (sp_pickA C) []) (c_Ages_leave : C8.Met P w K mg base 5 C "leave" (sp_leave C) []) (c_Ages_wake : C8.Met P w K mg base 5 C "wake" (sp_deed C wakeM) []) (c_Ages_sleep : C8.Met P w K mg base 5 C "sleep" (sp_deed C sleepM) [])
    (c_Ages_lend1 : C8.Met P w K mg base 5 C "lend" (sp_lend C) [.int 0]) (c_Ages_lend2 : C8.Met P w K mg base 5 C "lend" (sp_lend C) []) (c_Ages_enter1 : C8.Met P w K mg base 5 C "enter" (sp_enter C) [.int 3, .bl true]) (c_Ages_enter2 : C8.Met P w K mg base 5 C "enter" (sp_enter C) [.bl true])
    (ck_Ages_enter2 : MetP P w K mg base 5 C "enter" (sp_enter C) 2 ["ready"] (fun vs zs => vs ++ zs)) : C8.Cal P w K mg base 6 "_law_called" (sp_called K C) [] := by
  refine mk d sc__law_called (fun _ _ _ _ _ _ us hl => match us, hl with | [_, _], _ => rfl) (fun vs H Q E h => ?_) (fun fa cdv A outer s H vs Q E hr h => ?_)
  · obtain ⟨o, t, d, S, Z, R, rfl, _⟩ := h
    rfl
  · obtain ⟨o, t, d, S, Z, R, rfl, ht, hb, hok, hh, q⟩ := h
    refine ⟨_, (pss_cons (ps_if (pt_cmpR op_eq (pe_ix ix_tup (pv 1) pe_int (fun _ _ => rfl)) pe_str (nomark _))
    (pss_one (ps_ret (C8.pe_mt0 c_Ages_pick hr (by first | decide | omega) (pv 0))))
    pss_nil)
  (pss_cons (ps_if (pt_cmpR op_eq (pe_ix ix_tup (pv 1) pe_int (fun _ _ => rfl)) pe_str (nomark _))
    (pss_one (ps_ret (C8.pe_mt c_Ages_leave hr (by first | decide | omega) (pv 0) (pa_cons (pe_ix ix_tup (pv 1) pe_int (fun _ _ => rfl)) pa_nil))))
    pss_nil)
  (pss_cons (ps_if (pt_cmpR op_eq (pe_ix ix_tup (pv 1) pe_int (fun _ _ => rfl)) pe_str (nomark _))
    (pss_one (ps_ret (C8.pe_mt c_Ages_wake hr (by first | decide | omega) (pv 0) (pa_cons (pe_ix ix_tup (pv 1) pe_int (fun _ _ => rfl)) pa_nil))))
    pss_nil)
  (pss_cons (ps_if (pt_cmpR op_eq (pe_ix ix_tup (pv 1) pe_int (fun _ _ => rfl)) pe_str (nomark _))
    (pss_one (ps_ret (C8.pe_mt c_Ages_sleep hr (by first | decide | omega) (pv 0) (pa_cons (pe_ix ix_tup (pv 1) pe_int (fun _ _ => rfl)) pa_nil))))
    pss_nil)
  (pss_cons (ps_if (pt_cmpR op_eq (pe_ix ix_tup (pv 1) pe_int (fun _ _ => rfl)) pe_str (nomark _))
    (pss_cons (ps_if (pt_cmpR op_eq (pe_ix ix_tup (pv 1) pe_int (fun _ _ => rfl)) pe_int (nomark _))
        (pss_one (ps_ret (C8.pe_mt c_Ages_lend1 hr (by first | decide | omega) (pv 0) (pa_cons (pe_ix ix_tup (pv 1) pe_int (fun _ _ => rfl)) pa_nil))))
        pss_nil)
      (pss_one (ps_ret (C8.pe_mt c_Ages_lend2 hr (by first | decide | omega) (pv 0) (pa_cons (pe_ix ix_tup (pv 1) pe_int (fun _ _ => rfl)) (pa_cons (pe_ix ix_tup (pv 1) pe_int (fun _ _ => rfl)) pa_nil))))))
    pss_nil)
  (pss_cons (ps_if (PW.pt (pw_and (pt_val (pe_ix ix_tup (pv 1) pe_int (fun _ _ => rfl))) (pw_and1 (pt_cmpR op_eq (pe_ix ix_tup (pv 1) pe_int (fun _ _ => rfl)) pe_int (nomark _)))))
    (pss_one (ps_ret (C8.pe_mt c_Ages_enter1 hr (by first | decide | omega) (pv 0) (pa_cons (pe_ix ix_tup (pv 1) pe_int (fun _ _ => rfl)) pa_nil))))
    pss_nil)
  (pss_cons (ps_if (pt_val (pe_ix ix_tup (pv 1) pe_int (fun _ _ => rfl)))
    (pss_one (ps_ret (C8.pe_mt c_Ages_enter2 hr (by first | decide | omega) (pv 0) (pa_cons (pe_ix ix_tup (pv 1) pe_int (fun _ _ => rfl)) (pa_cons (pe_ix ix_tup (pv 1) pe_int (fun _ _ => rfl)) pa_nil)))))
    pss_nil)
  (pss_one (ps_ret (Wk.pe_mtP ck_Ages_enter2 hr (by first | decide | omega) (pv 0) (pa_cons (pe_ix ix_tup (pv 1) pe_int (fun _ _ => rfl)) (pa_cons (pe_ix ix_tup (pv 1) pe_int (fun _ _ => rfl)) pa_nil)) (pk_cons pe_bl pk_nil))))))))))), ?_⟩
    have hb2 := hb
    obtain ⟨dd, Z1, tb, rfl⟩ := hb
    have h1 : Hd H (agI o C dd :: (Z1 ++ R)) := hh
    have ht2 : tupC t (dV d) ∈ agI o C dd :: (Z1 ++ R) := List.mem_cons_of_mem _ (List.mem_append_right _ ht)
    have sq := h1.sqT (K := K) ht2
    have get : ∀ {k : Nat}, domS S k = true → ∃ m, S k = some m := fun h => Option.isSome_iff_exists.mp h
    have getN : ∀ {k : Nat}, domS S k = false → S k = none := fun h => by
      cases e : S _ with
      | none => rfl
      | some x => rw [show domS S _ = (S _).isSome from rfl, e] at h; cases h
    cases d with
    | pick =>
      have sq : SqT K H t [V.str (Str.ofString "pick")] := sq
      walk_at "gs"
      exact ⟨o, S, _, R, rfl, hb2, hh, fun he H' h' => q _ _ _ H' (.inl ⟨rfl, .inl ⟨he, rfl, rfl⟩⟩) hb2 h', fun p Z' H' hp hb' h' => q _ _ _ H' (.inl ⟨rfl, .inr ⟨p, hp, rfl, rfl⟩⟩) hb' h'⟩
    | leave k =>
      have sq : SqT K H t [V.str (Str.ofString "leave"), V.int (k : Int)] := sq
      walk_at "gs"
      obtain ⟨m, hk⟩ := get hok
      exact ⟨o, k, m, S, _, R, rfl, hb2, hk, hh, fun Z' H' hb' h' => q _ _ _ H' (.inr ⟨(fun z => by cases z), rfl, rfl⟩) hb' h'⟩
    | wake k =>
      have sq : SqT K H t [V.str (Str.ofString "wake"), V.int (k : Int)] := sq
      walk_at "gs"
      obtain ⟨m, hk⟩ := get hok
      exact ⟨o, k, m, S, _, R, rfl, hb2, hk, hh, fun Z' H' hb' h' => q _ _ _ H' (.inr ⟨(fun z => by cases z), rfl, by rw [show stepS S (.wake k) = upS S k ((S k).map wakeM) from rfl, hk]; rfl⟩) hb' h'⟩
    | sleep k =>
      have sq : SqT K H t [V.str (Str.ofString "sleep"), V.int (k : Int)] := sq
      walk_at "gs"
      obtain ⟨m, hk⟩ := get hok
      exact ⟨o, k, m, S, _, R, rfl, hb2, hk, hh, fun Z' H' hb' h' => q _ _ _ H' (.inr ⟨(fun z => by cases z), rfl, by rw [show stepS S (.sleep k) = upS S k ((S k).map sleepM) from rfl, hk]; rfl⟩) hb' h'⟩
    | lend k p =>
      have sq : SqT K H t [V.str (Str.ofString "lend"), V.int (k : Int), V.int (p : Int)] := sq
      walk_at "gs"
      obtain ⟨m, hk⟩ := get hok.2
      have hle := hok.1
      refine w_ite (fun e => ?_) (fun e => ?_)
      · walk_at "gs"
        have e : p = 0 := by omega
        subst e
        exact ⟨o, k, 0, m, S, _, R, rfl, hle, hb2, hk, hh, fun Z' H' hb' h' => q _ _ _ H' (.inr ⟨(fun z => by cases z), rfl, by rw [show stepS S (.lend k 0) = upS S k ((S k).map fun m => { m with lent := 0 }) from rfl, hk]; rfl⟩) hb' h'⟩
      · walk_at "gs"
        exact ⟨o, k, p, m, S, _, R, rfl, hle, hb2, hk, hh, fun Z' H' hb' h' => q _ _ _ H' (.inr ⟨(fun z => by cases z), rfl, by rw [show stepS S (.lend k p) = upS S k ((S k).map fun m => { m with lent := p }) from rfl, hk]; rfl⟩) hb' h'⟩
    | enter k p r =>
      have sq : SqT K H t [V.str (Str.ofString "enter"), V.int (k : Int), V.int (p : Int), V.bl r] := sq
      walk_at "gs"
      obtain ⟨hk8, hp7, hno⟩ := hok
      have hno := getN hno
      have fin : ∀ (Z' : List Cell) (H' : Hp), AgB C o (upS S k (some (newM p r))) Z' → Hd H' (Z' ++ R) → Q .non H' := fun Z' H' hb' h' => q _ _ _ H' (.inr ⟨(fun z => by cases z), rfl, rfl⟩) hb' h'
      cases r with
      | true =>
        walk_at "gs"
        by_cases e : (p : Int) = 3
        · rw [decide_eq_true e]
          have e : p = 3 := by omega
          subst e
          walk_at "gs"
          exact ⟨o, k, 3, true, S, _, R, rfl, by omega, hp7, hb2, hno, hh, fin⟩
        · rw [decide_eq_false e]
          walk_at "gs"
          exact ⟨o, k, p, true, S, _, R, rfl, by omega, hp7, hb2, hno, hh, fin⟩
      | false =>
        walk_at "gs"
        refine w_methP ?_
        walk_at "gs"
        refine g_methP h1 (List.mem_cons_self ..) rfl ?_
        walk_at "gs"
        refine ⟨rfl, rfl, ?_⟩
        exact ⟨o, k, p, false, S, _, R, rfl, by omega, hp7, hb2, hno, hh, fin⟩
end
end
end K23
set_option Elab.async false
set_option linter.all false
set_option maxRecDepth 100000
set_option maxHeartbeats 4000000
namespace K23
open PySem PySem.Spec PyProof.Rows L2 Wk
local macro_rules | `(tactic| walk_at "u1") => `(tactic| fail "no more")
local macro_rules | `(tactic| walk_at "pos") => `(tactic| first | assumption | omega | decide | (simp only [Int.ofNat_eq_natCast] at *; omega))
local macro_rules | `(tactic| walk_at "sz") => `(tactic| first
  | (simp only [List.length_cons, List.length_nil]; decide)
  | exact Evl.sz_of (by omega)
  | exact Evl.sz_lt (by omega)
  | exact Evl.sz_of (by simp only [List.length_map, List.length_append, List.length_cons, List.length_nil, List.length_replicate]; omega)
  | exact Evl.sz_lt (by simp only [List.length_map, List.length_append, List.length_cons, List.length_nil, List.length_replicate]; omega))
local macro_rules | `(tactic| walk_at "cond") => `(tactic| first
  | exact Or.inr ⟨by decide, by decide⟩
  | (show (0 : Int) < _; first | decide | assumption | omega)
  | exact Or.inl ⟨by omega, by omega⟩
  | exact Or.inr ⟨by omega, by omega⟩
  | exact ⟨by decide, by decide, by decide⟩
  | exact log2_lt (by omega) (by omega)
  | exact ⟨by omega, by omega⟩)
local macro_rules | `(tactic| walk_at "ty") => `(tactic| first
  | exact ty_int | exact ty_bl | exact ty_str | exact ty_non
  | exact ty_L (by assumption) | exact ty_T (by assumption)
  | exact ty_L (SqL.of (by assumption)) | exact ty_T (SqT.of (by assumption)))
local macro_rules | `(tactic| walk_at "kit") => `(tactic| first
  | exact k_ii | exact k_ib | exact k_is | exact k_il | exact k_it
  | exact k_bb | exact k_bi | exact k_bs | exact k_bl | exact k_bt
  | exact k_ss | exact k_sb | exact k_si | exact k_sl | exact k_st
  | exact k_ll | exact k_lb | exact k_li | exact k_ls | exact k_lt
  | exact k_tt | exact k_tb | exact k_ti | exact k_ts | exact k_tl
  | exact k_nn | exact k_ni | exact k_ns | exact k_nl | exact k_nt)
local macro_rules | `(tactic| walk_at "s1") => `(tactic| first
  | with_reducible refine w_seq ?_
  | with_reducible refine w_set ?_
  | with_reducible refine w_op ?_
  | ((with_reducible refine' w_var ?h1 ?_); (case h1 => rfl))
  | with_reducible refine w_c ?_
  | with_reducible refine w_cb ?_
  | with_reducible refine w_cons ?_
  | with_reducible refine w_nil ?_
  | with_reducible refine w_I0 ?_
  | ((with_reducible refine' w_I ?c1 ?_); case c1 => walk_at "cond")
  | with_reducible refine w_ret ?_
  | with_reducible refine w_next ?_
  | with_reducible refine w_ifS ?_
  | with_reducible refine w_test ?_
  | with_reducible refine w_tB ?_
  | with_reducible refine w_k ?_
  | with_reducible refine w_eqI ?_
  | with_reducible refine w_neI ?_
  | with_reducible refine w_eqS ?_
  | with_reducible refine w_neS ?_
  | with_reducible refine w_and ?_
  | with_reducible refine w_or ?_
  | with_reducible refine w_not ?_
  | with_reducible refine w_andV ?_
  | with_reducible refine w_orV ?_
  | with_reducible refine w_notV ?_
  | with_reducible refine w_ifE ?_
  | with_reducible refine w_true ?_
  | with_reducible refine w_false ?_
  | with_reducible refine w_ntrue ?_
  | with_reducible refine w_nfalse ?_
  | with_reducible refine w_call ?_
  | with_reducible refine c_int ?_
  | with_reducible refine c_abs ?_
  | with_reducible refine c_max ?_
  | with_reducible refine c_min ?_
  | with_reducible refine w_drop ?_
  | with_reducible refine w_sfld ?_
  | with_reducible refine w_meth ?_
  | with_reducible refine w_make ?_
  | with_reducible refine w_prop ?_
  | with_reducible refine w_callK ?_
  | with_reducible refine w_callN ?_
  | with_reducible refine w_star ?_
  | with_reducible refine w_gcons ?_
  | with_reducible refine w_gname ?_
  | with_reducible refine w_gnil ?_
  | with_reducible refine w_retN ?_
  | with_reducible refine w_tup ?_
  | with_reducible refine w_lst ?_
  | with_reducible refine w_fld ?_
  | with_reducible refine w_bm ?_
  | with_reducible refine w_bm0 ?_
  | with_reducible refine w_forL ?_
  | with_reducible refine w_forT ?_
  | with_reducible refine w_forS ?_
  | with_reducible refine w_forR ?_
  | with_reducible refine w_lcR ?_
  | with_reducible refine w_lcL ?_
  | with_reducible refine w_lcT ?_
  | with_reducible refine w_isN ?_
  | with_reducible refine w_notN ?_
  | with_reducible refine w_asg ?_
  | with_reducible refine w_gsub ?_
  | ((with_reducible refine' w_aug ?h1 ?_); (case h1 => rfl))
  | with_reducible refine w_augS ?_
  | with_reducible refine w_ipI ?_
  | with_reducible refine w_un ?_
  | with_reducible refine w_U ?_
  | ((with_reducible refine' w_iteF ?f1 ?_); case f1 => (first | (intro h; cases h; done) | decide))
  | ((with_reducible refine' w_iteT ?f1 ?_); case f1 => rfl)
  | ((with_reducible refine' w_iteNF ?f1 ?_); case f1 => rfl)
  | ((with_reducible refine' w_iteNT ?f1 ?_); case f1 => (first | (intro h; cases h; done) | decide))
  | ((with_reducible refine' c_isi ?t1 ?k1 ?_); (case t1 => walk_at "ty"); (case k1 => walk_at "kit"))
  | ((with_reducible refine' w_eq ?e1 ?_); case e1 => rfl)
  | ((with_reducible refine' w_ne ?e1 ?_); case e1 => rfl)
  | walk_at "u1")
local macro_rules | `(tactic| walk_at "s") => `(tactic| repeat walk_at "s1")
local macro_rules | `(tactic| walk_at "mem") => `(tactic| first | with_reducible exact List.mem_cons_self .. | ((with_reducible refine' List.mem_cons_of_mem _ ?q); (case q => walk_at "mem")) | assumption | ((with_reducible refine' List.mem_append_right _ ?q); (case q => walk_at "mem")) | (exact List.mem_append_left _ (by assumption)))
local macro_rules | `(tactic| walk_at "pk") => `(tactic| first | with_reducible exact Pk.here | ((with_reducible refine' Pk.there ?q); (case q => walk_at "pk")) | ((with_reducible refine' Pk.app ?q); (case q => walk_at "pk")))
local macro_rules | `(tactic| walk_at "pkb") => `(tactic| first | with_reducible exact PkB.here | ((with_reducible refine' PkB.there ?q); (case q => walk_at "pkb")) | ((with_reducible refine' PkB.app ?q); (case q => walk_at "pkb")))
local macro_rules | `(tactic| walk_at "spl") => `(tactic| first | with_reducible exact Spl.nil | ((with_reducible refine' Spl.cons ?h ?t); (case h => walk_at "pk"); (case t => walk_at "spl")) | ((with_reducible refine' Spl.blk ?h ?t); (case h => walk_at "pkb"); (case t => walk_at "spl")))
local macro_rules | `(tactic| walk_at "sbx") => `(tactic| first | with_reducible exact Sb.refl | with_reducible exact Sb.nil | with_reducible exact Sb.left | ((with_reducible refine' Sb.cons ?h ?t); (case h => walk_at "pk"); (case t => walk_at "sbx")) | ((with_reducible refine' Sb.blk ?h ?t); (case h => walk_at "pkb"); (case t => walk_at "sbx")) | ((with_reducible refine' Sb.drop ?q); (case q => walk_at "sbx")) | ((with_reducible refine' Sb.right ?q); (case q => walk_at "sbx")))
local macro_rules | `(tactic| walk_at "hd") => `(tactic| first | assumption | exact Hd.sb (by assumption) (by walk_at "sbx"))
local macro_rules | `(tactic| walk_at "sq") => `(tactic| first
  | assumption
  | exact Hd.sqL (by assumption) (by walk_at "mem")
  | exact Hd.sqT (by assumption) (by walk_at "mem")
  | exact Hd.sqF (by assumption) (by walk_at "mem")
  | (refine .inl ?_; walk_at "sq")
  | (refine .inr ?_; walk_at "sq"))
local macro_rules | `(tactic| walk_at "at") => `(tactic| first | rfl | assumption | exact atI_nat (by assumption))
local macro_rules | `(tactic| walk_at "dn1") => `(tactic| first
  | exact Dn.int | exact Dn.str | exact Dn.non | exact Dn.bl | assumption
  | ((refine' Dn.tp ?a1 ?m1 ?l1 ?p1); (case a1 => assumption); (case m1 => walk_at "mem"); (case l1 => (simp only [List.length_cons, List.length_nil]; omega)); (case p1 => walk_at "dns"))
  | ((refine' Dn.lt ?a1 ?m1 ?l1 ?p1); (case a1 => assumption); (case m1 => walk_at "mem"); (case l1 => (simp only [List.length_cons, List.length_nil]; omega)); (case p1 => walk_at "dns")))
local macro_rules | `(tactic| walk_at "dns") => `(tactic| first | exact Paired.nil | exact Dn.ints | ((refine' Paired.cons ?a1 ?b1); (case a1 => walk_at "dn1"); (case b1 => walk_at "dns")))
local macro_rules | `(tactic| walk_at "g1") => `(tactic| first
  | ((with_reducible refine' g_ixI ?h1 ?h2 ?h3 ?_); (case h1 => assumption); (case h2 => walk_at "mem"); (case h3 => omega); intro z hz)
  | ((with_reducible refine' g_ixIT ?h1 ?h2 ?h3 ?_); (case h1 => assumption); (case h2 => walk_at "mem"); (case h3 => omega); intro z hz)
  | ((with_reducible refine' g_setI ?h1 ?h2 ?h3 ?_); (case h1 => assumption); (case h2 => walk_at "pk"); (case h3 => omega); intro H2 hh2)
  | ((with_reducible refine' w_ixL ?h1 ?h2 ?_); (case h1 => walk_at "sq"); (case h2 => walk_at "at"))
  | ((with_reducible refine' w_ixT ?h1 ?h2 ?_); (case h1 => walk_at "sq"); (case h2 => walk_at "at"))
  | ((with_reducible refine' w_ixAny ?h1 ?h2 ?_); (case h1 => walk_at "sq"); (case h2 => walk_at "at"))
  | ((with_reducible refine' c_lenA ?h1 ?_); (case h1 => walk_at "sq"))
  | ((with_reducible refine' c_isi ?t1 ?k1 ?_); (case t1 => first | exact ty_T (by walk_at "sq") | exact ty_L (by walk_at "sq")); (case k1 => walk_at "kit"))
  | ((with_reducible refine' g_lst ?h1 ?h2 ?_); (case h1 => assumption); (case h2 => walk_at "sz"); intro p H2 hh2)
  | ((with_reducible refine' g_tup ?h1 ?h2 ?_); (case h1 => assumption); (case h2 => walk_at "sz"); intro p H2 hh2)
  | ((with_reducible refine' g_dict ?h1 ?_); (case h1 => assumption); intro p H2 hh2)
  | ((with_reducible refine' g_listL ?h1 ?h2 ?_); (case h1 => assumption); (case h2 => walk_at "sq"); intro p H2 hh2)
  | ((with_reducible refine' g_listT ?h1 ?h2 ?_); (case h1 => assumption); (case h2 => walk_at "sq"); intro p H2 hh2)
  | ((with_reducible refine' g_tupL ?h1 ?h2 ?_); (case h1 => assumption); (case h2 => walk_at "sq"); intro p H2 hh2)
  | ((with_reducible refine' g_set ?h1 ?h2 ?h3 ?_); (case h1 => assumption); (case h2 => walk_at "pk"); (case h3 => first | rfl | assumption | exact Evl.ixN_nat (by first | omega | (simp only [List.length_cons, List.length_nil]; omega))); intro H2 hh2)
  | ((with_reducible refine' g_kbm ?h1 ?h2 ?_); (case h1 => assumption); (case h2 => walk_at "mem"))
  | ((with_reducible refine' g_kbm0 ?h1 ?h2 ?_); (case h1 => assumption); (case h2 => walk_at "mem"))
  | ((with_reducible refine' g_app ?h1 ?h2 ?h3 ?_); (case h1 => assumption); (case h2 => walk_at "pk"); (case h3 => walk_at "sz"); intro H2 hh2)
  | ((with_reducible refine' g_kapp ?h1 ?h2 ?h3 ?_); (case h1 => assumption); (case h2 => walk_at "pk"); (case h3 => walk_at "sz"); intro H2 hh2)
  | ((with_reducible refine' g_fld ?h1 ?h2 ?h3 ?h4 ?h5 ?_); (case h1 => assumption); (case h2 => walk_at "mem"); (case h3 => assumption); (case h4 => assumption); (case h5 => rfl))
  | ((with_reducible refine' g_sfld ?h1 ?h2 ?h3 ?h4 ?h5 ?_); (case h1 => assumption); (case h2 => walk_at "pk"); (case h3 => assumption); (case h4 => assumption); (case h5 => decide); intro H2 hh2)
  | ((with_reducible refine' g_meth ?h1 ?h2 ?h3 ?_); (case h1 => assumption); (case h2 => walk_at "mem"); (case h3 => rfl))
  | ((with_reducible refine' g_prop ?h1 ?h2 ?_); (case h1 => assumption); (case h2 => walk_at "mem"))
  | ((with_reducible refine' g_make ?h1 ?_); (case h1 => assumption); intro x H2 hh2)
  | ((with_reducible refine' g_cat ?h1 ?h2 ?h3 ?h4 ?_); (case h1 => assumption); (case h2 => walk_at "mem"); (case h3 => walk_at "mem"); (case h4 => walk_at "sz"); intro p H2 hh2)
  | ((with_reducible refine' g_inT ?h1 ?h2 ?h3 ?h4 ?h5 ?_); (case h1 => assumption); (case h2 => walk_at "mem"); (case h3 => rfl); (case h4 => rfl); (case h5 => rfl)))
local macro_rules | `(tactic| walk_at "gs") => `(tactic| repeat first | walk_at "s1" | walk_at "g1")
local macro_rules | `(tactic| walk_at "ite") => `(tactic| first
  | ((with_reducible refine' w_iteT ?h1 ?_); (case h1 => omega))
  | ((with_reducible refine' w_iteF ?h1 ?_); (case h1 => omega))
  | (with_reducible refine w_ite ?_ ?_ <;> intro hq)
  | ((with_reducible refine' w_iteNT ?h1 ?_); (case h1 => omega))
  | ((with_reducible refine' w_iteNF ?h1 ?_); (case h1 => omega))
  | (with_reducible refine w_iteN ?_ ?_ <;> intro hq))
local macro_rules | `(tactic| walk_at "go") => `(tactic| repeat' first | walk_at "s1" | walk_at "g1" | walk_at "ite")
local macro_rules | `(tactic| walk_at "g1") => `(tactic| first | with_reducible refine w_din ?_ | with_reducible refine w_dnotin ?_ | with_reducible refine w_dget ?_ | with_reducible refine w_dput ?_ | with_reducible refine w_ddel ?_ | with_reducible refine w_dpop ?_)
section
variable {P : Program} {w : World} {K : PySem.W.Frag} {mg : Str → Option Value} {base : Heap} {aREG aOPS : Addr}
section
variable {C : Addr}
theorem kk_wake (T : Txt K mg aREG aOPS) (L : AgC K C) (d : MetAt K C "wake" "Ages.wake" s_Ages__wake) (c_Ages__ask_member : C8.Met P w K mg base 4 C "_ask_member" (sp_askM C) []) : MetK P w K mg base 5 C "wake" (sp_deed C wakeM) ["pid"] (fun vs zs => vs ++ zs) := by
  obtain ⟨f, fd, F, hc', hm⟩ := d
  have F : FunD K "wake" "Ages.wake" (defArgs s_Ages__wake) (defBody s_Ages__wake) (defScope s_Ages__wake) [] [] f fd := F
  refine ⟨f, fd, ["self", "pid"], fun us ws => us ++ ws, hc', hm, F.ok sc_Ages__wake (fun vs H Q E h => ?_) (fun cdv A outer s H vs Q E hr h => ?_), kbn0 F (fun r1 r2 => r1.append r2) fun _ _ _ _ _ _ us ws h1 h2 => match us, ws, h1, h2 with | [_], [_], _, _ => rfl⟩
  · obtain ⟨o, k, m, S, Z, R, rfl, _⟩ := h
    rfl
  · obtain ⟨o, k, m, S, Z, R, rfl, hb, hk, hh, q⟩ := h
    have hu : (A.deeper (envOfC "Ages.wake" (defScope s_Ages__wake) s.heap.objs.size f cdv)).units + 1 < cLine := by have := hr.un; omega
    refine ⟨_, PSs.nox (pss_cons (ps_expr (C8.pe_mt c_Ages__ask_member hr (by first | decide | omega) (pv 0) (pa_cons (pv 1) pa_nil)))
  (pss_one (ps_asg pe_bl (pg_sub (pe_dget hu (pe_fld (pv 0) rfl) (pv 1) (fun _ _ => rfl)) pe_int set_list)))), ?_⟩
    have hc := L.cl
    have nm := L.nm
    obtain ⟨d, ad, kv, X, hv, op, cl⟩ := hb.open hk
    have h1 := (op _ _).mp hh
    walk_at "gs"
    refine ⟨o, k, m, S, Z, R, rfl, hb, hk, hh, ?_⟩
    walk_at "gs"
    refine g_dget (k := .inl (k : Int)) h1 (by walk_at "mem") rfl hv ?_
    walk_at "gs"
    rename_i H2 h2
    obtain ⟨Z', hb', cl'⟩ := cl (wakeM m)
    exact q Z' H2 hb' (cl' _ _ (Hd.sb (hdCast (c' := lstC ad (mbV (wakeM m))) h2 rfl) (by walk_at "sbx")))
theorem kk_sleep (T : Txt K mg aREG aOPS) (L : AgC K C) (d : MetAt K C "sleep" "Ages.sleep" s_Ages__sleep) (c_Ages__ask_member : C8.Met P w K mg base 4 C "_ask_member" (sp_askM C) []) : MetK P w K mg base 5 C "sleep" (sp_deed C sleepM) ["pid"] (fun vs zs => vs ++ zs) := by
  obtain ⟨f, fd, F, hc', hm⟩ := d
  have F : FunD K "sleep" "Ages.sleep" (defArgs s_Ages__sleep) (defBody s_Ages__sleep) (defScope s_Ages__sleep) [] [] f fd := F
  refine ⟨f, fd, ["self", "pid"], fun us ws => us ++ ws, hc', hm, F.ok sc_Ages__sleep (fun vs H Q E h => ?_) (fun cdv A outer s H vs Q E hr h => ?_), kbn0 F (fun r1 r2 => r1.append r2) fun _ _ _ _ _ _ us ws h1 h2 => match us, ws, h1, h2 with | [_], [_], _, _ => rfl⟩
  · obtain ⟨o, k, m, S, Z, R, rfl, _⟩ := h
    rfl
  · obtain ⟨o, k, m, S, Z, R, rfl, hb, hk, hh, q⟩ := h
    have hu : (A.deeper (envOfC "Ages.sleep" (defScope s_Ages__sleep) s.heap.objs.size f cdv)).units + 1 < cLine := by have := hr.un; omega
    refine ⟨_, PSs.nox (pss_cons (ps_expr (C8.pe_mt c_Ages__ask_member hr (by first | decide | omega) (pv 0) (pa_cons (pv 1) pa_nil)))
  (pss_cons (ps_asg pe_bl (pg_sub (pe_dget hu (pe_fld (pv 0) rfl) (pv 1) (fun _ _ => rfl)) pe_int set_list))
  (pss_one (ps_asg pe_int (pg_sub (pe_dget hu (pe_fld (pv 0) rfl) (pv 1) (fun _ _ => rfl)) pe_int set_list))))), ?_⟩
    have hc := L.cl
    have nm := L.nm
    obtain ⟨d, ad, kv, X, hv, op, cl⟩ := hb.open hk
    have h1 := (op _ _).mp hh
    walk_at "gs"
    refine ⟨o, k, m, S, Z, R, rfl, hb, hk, hh, ?_⟩
    walk_at "gs"
    refine g_dget (k := .inl (k : Int)) h1 (by walk_at "mem") rfl hv ?_
    walk_at "gs"
    rename_i H2 h2
    refine g_dget (k := .inl (k : Int)) h2 (by walk_at "mem") rfl hv ?_
    walk_at "gs"
    rename_i H3 h3
    obtain ⟨Z', hb', cl'⟩ := cl (sleepM m)
    exact q Z' H3 hb' (cl' _ _ (Hd.sb (hdCast (c' := lstC ad (mbV (sleepM m))) h3 rfl) (by walk_at "sbx")))
theorem kk_leave (T : Txt K mg aREG aOPS) (L : AgC K C) (d : MetAt K C "leave" "Ages.leave" s_Ages__leave) (c_Ages__ask_member : C8.Met P w K mg base 4 C "_ask_member" (sp_askM C) []) : MetK P w K mg base 5 C "leave" (sp_leave C) ["pid"] (fun vs zs => vs ++ zs) := by
  obtain ⟨f, fd, F, hc', hm⟩ := d
  have F : FunD K "leave" "Ages.leave" (defArgs s_Ages__leave) (defBody s_Ages__leave) (defScope s_Ages__leave) [] [] f fd := F
  refine ⟨f, fd, ["self", "pid"], fun us ws => us ++ ws, hc', hm, F.ok sc_Ages__leave (fun vs H Q E h => ?_) (fun cdv A outer s H vs Q E hr h => ?_), kbn0 F (fun r1 r2 => r1.append r2) fun _ _ _ _ _ _ us ws h1 h2 => match us, ws, h1, h2 with | [_], [_], _, _ => rfl⟩
  · obtain ⟨o, k, m, S, Z, R, rfl, _⟩ := h
    rfl
  · obtain ⟨o, k, m, S, Z, R, rfl, hb, hk, hh, q⟩ := h
    refine ⟨_, PSs.nox (pss_cons (ps_expr (C8.pe_mt c_Ages__ask_member hr (by first | decide | omega) (pv 0) (pa_cons (pv 1) pa_nil)))
  (pss_one (ps_ddel (pe_fld (pv 0) rfl) (pv 1)))), ?_⟩
    have hc := L.cl
    have nm := L.nm
    have hb2 := hb
    obtain ⟨d, Z1, tb, rfl⟩ := hb
    obtain ⟨kv, X, e, ⟨ad, hv⟩, Z', tb', cl⟩ := tb.del hk
    subst e
    have h1 : Hd H (agI o C d :: dctC d kv :: (X ++ R)) := hh
    walk_at "gs"
    refine ⟨o, k, m, S, _, R, rfl, hb2, hk, hh, ?_⟩
    walk_at "gs"
    refine g_ddel (k := .inl (k : Int)) h1 (by walk_at "pk") rfl (by rw [hv]; rfl) fun H3 h3 => ?_
    refine q (agI o C d :: Z') H3 ⟨d, Z', tb', rfl⟩ ?_
    have h4 := cl H3 (agI o C d :: R) (Hd.sb (A := dctC d (dropK kv (.inl (k : Int))) :: (X ++ (agI o C d :: R))) h3 (by walk_at "sbx"))
    exact h4.perm List.perm_middle
theorem kk_prio (T : Txt K mg aREG aOPS) (L : AgC K C) (d : MetAt K C "priority" "Ages.priority" s_Ages__priority) (c_Ages__ask_member : C8.Met P w K mg base 4 C "_ask_member" (sp_askM C) []) (c_Ages__effective : C8.Met P w K mg base 1 C "_effective" (sp_mbI C effI) []) : MetK P w K mg base 5 C "priority" (sp_mbI C effI) ["pid"] (fun vs zs => vs ++ zs) := by
  obtain ⟨f, fd, F, hc', hm⟩ := d
  have F : FunD K "priority" "Ages.priority" (defArgs s_Ages__priority) (defBody s_Ages__priority) (defScope s_Ages__priority) [] [] f fd := F
  refine ⟨f, fd, ["self", "pid"], fun us ws => us ++ ws, hc', hm, F.ok sc_Ages__priority (fun vs H Q E h => ?_) (fun cdv A outer s H vs Q E hr h => ?_), kbn0 F (fun r1 r2 => r1.append r2) fun _ _ _ _ _ _ us ws h1 h2 => match us, ws, h1, h2 with | [_], [_], _, _ => rfl⟩
  · obtain ⟨o, k, m, S, Z, R, rfl, _⟩ := h
    rfl
  · obtain ⟨o, k, m, S, Z, R, rfl, hb, hk, hh, q⟩ := h
    refine ⟨_, PSs.nox (pss_cons (ps_expr (C8.pe_mt c_Ages__ask_member hr (by first | decide | omega) (pv 0) (pa_cons (pv 1) pa_nil)))
  (pss_one (ps_ret (C8.pe_mt c_Ages__effective hr (by first | decide | omega) (pv 0) (pa_cons (pv 1) pa_nil))))), ?_⟩
    obtain ⟨d, ad, kv, X, hv, op, cl⟩ := hb.open hk
    have h1 := (op _ _).mp hh
    walk_at "gs"
    refine ⟨o, k, m, S, Z, R, rfl, hb, hk, hh, ?_⟩
    walk_at "gs"
    exact g_mbI hb hk hh q
theorem kk_age (T : Txt K mg aREG aOPS) (L : AgC K C) (d : MetAt K C "age" "Ages.age" s_Ages__age) (c_Ages__ask_member : C8.Met P w K mg base 4 C "_ask_member" (sp_askM C) []) : MetK P w K mg base 5 C "age" (sp_mbI C fun m => m.age) ["pid"] (fun vs zs => vs ++ zs) := by
  obtain ⟨f, fd, F, hc', hm⟩ := d
  have F : FunD K "age" "Ages.age" (defArgs s_Ages__age) (defBody s_Ages__age) (defScope s_Ages__age) [] [] f fd := F
  refine ⟨f, fd, ["self", "pid"], fun us ws => us ++ ws, hc', hm, F.ok sc_Ages__age (fun vs H Q E h => ?_) (fun cdv A outer s H vs Q E hr h => ?_), kbn0 F (fun r1 r2 => r1.append r2) fun _ _ _ _ _ _ us ws h1 h2 => match us, ws, h1, h2 with | [_], [_], _, _ => rfl⟩
  · obtain ⟨o, k, m, S, Z, R, rfl, _⟩ := h
    rfl
  · obtain ⟨o, k, m, S, Z, R, rfl, hb, hk, hh, q⟩ := h
    have hu : (A.deeper (envOfC "Ages.age" (defScope s_Ages__age) s.heap.objs.size f cdv)).units + 1 < cLine := by have := hr.un; omega
    refine ⟨_, PSs.nox (pss_cons (ps_expr (C8.pe_mt c_Ages__ask_member hr (by first | decide | omega) (pv 0) (pa_cons (pv 1) pa_nil)))
  (pss_one (ps_ret (pe_ix ix_list (pe_dget hu (pe_fld (pv 0) rfl) (pv 1) (fun _ _ => rfl)) pe_int (fun _ _ => rfl))))), ?_⟩
    have hc := L.cl
    have nm := L.nm
    obtain ⟨d, ad, kv, X, hv, op, cl⟩ := hb.open hk
    have h1 := (op _ _).mp hh
    walk_at "gs"
    refine ⟨o, k, m, S, Z, R, rfl, hb, hk, hh, ?_⟩
    walk_at "gs"
    refine g_dget (k := .inl (k : Int)) h1 (by walk_at "mem") rfl hv ?_
    walk_at "gs"
    exact q
theorem vals_rev : ∀ {vs : List V} {us : List Value}, Vals vs us → Vals vs.reverse us.reverse
  | _, _, .nil => .nil
  | _, _, .cons r t => by
    rw [List.reverse_cons, List.reverse_cons]
    exact (vals_rev t).append (.cons r .nil)
theorem kk_lend {f : Addr} {fd : FuncData} (T : Txt K mg aREG aOPS) (L : AgC K C) (F : DefM K "lend" "Ages.lend" s_Ages__lend [.int 0] f fd) (hm : Meth K C "lend" f) (c_ask_range : C8.Cal P w K mg base 3 "ask_range" (sp_ask K) []) (c_Ages__ask_member : C8.Met P w K mg base 4 C "_ask_member" (sp_askM C) []) : MetK P w K mg base 5 C "lend" (sp_lend C) ["priority", "pid"] (fun vs zs => vs ++ zs.reverse) := by
  have F : FunD K "lend" "Ages.lend" (defArgs s_Ages__lend) (defBody s_Ages__lend) (defScope s_Ages__lend) [.int 0] [] f fd := F
  obtain ⟨its, kb⟩ := F.kbindsD (ps := ["self", "pid", "priority"]) 1 ["priority", "pid"] (fun us _ ws => us ++ ws.reverse) (by simp) (fun r1 _ r3 => r1.append (vals_rev r3)) fun T kV doc pm an cdv ct us its ws h1 h2 h3 => match us, its, ws, h1, h2, h3 with | [_], [_], [_, _], _, _, _ => ⟨_, rfl, rfl⟩
  exact ⟨f, fd, _, _, L.cl, hm, F.ok sc_Ages__lend (fun vs H Q E h => len_lend h) (fun cdv A outer s H vs Q E hr hsp => let ⟨t, h, q⟩ := b_lend T L c_ask_range c_Ages__ask_member f cdv A outer s H vs Q E hr hsp; ⟨t, h.nox, q⟩), kb⟩
theorem kk_enter {f : Addr} {fd : FuncData} (T : Txt K mg aREG aOPS) (L : AgC K C) (F : EnF K C f fd) (hm : Meth K C "enter" f) (c_ask_range : C8.Cal P w K mg base 3 "ask_range" (sp_ask K) []) (c_ask_truth : C8.Cal P w K mg base 1 "ask_truth" sp_askT []) : MetK P w K mg base 5 C "enter" (sp_enter C) ["ready", "priority", "pid"] (fun vs zs => vs ++ zs.reverse) := by
  obtain ⟨its, kb⟩ := F.kbindsD (ps := ["self", "pid", "priority", "ready"]) 1 ["ready", "priority", "pid"] (fun us _ ws => us ++ ws.reverse) (by simp) (fun r1 _ r3 => r1.append (vals_rev r3)) fun T kV doc pm an cdv ct us its ws h1 h2 h3 => match us, its, ws, h1, h2, h3 with | [_], [_], [_, _, _], _, _, _ => ⟨_, rfl, rfl⟩
  exact ⟨f, fd, _, _, L.cl, hm, fo_enter T L F c_ask_range c_ask_truth, kb⟩
end
end
end K23
set_option Elab.async false
set_option linter.all false
set_option maxRecDepth 100000
set_option maxHeartbeats 4000000
namespace K23
open PySem PySem.Spec PyProof.Rows L2 Wk
local macro_rules | `(tactic| walk_at "u1") => `(tactic| fail "no more")
local macro_rules | `(tactic| walk_at "pos") => `(tactic| first | assumption | omega | decide | (simp only [Int.ofNat_eq_natCast] at *; omega))
local macro_rules | `(tactic| walk_at "sz") => `(tactic| first
  | (simp only [List.length_cons, List.length_nil]; decide)
  | exact Evl.sz_of (by omega)
  | exact Evl.sz_lt (by omega)
  | exact Evl.sz_of (by simp only [List.length_map, List.length_append, List.length_cons, List.length_nil, List.length_replicate]; omega)
  | exact Evl.sz_lt (by simp only [List.length_map, List.length_append, List.length_cons, List.length_nil, List.length_replicate]; omega))
local macro_rules | `(tactic| walk_at "cond") => `(tactic| first
  | exact Or.inr ⟨by decide, by decide⟩
  | (show (0 : Int) < _; first | decide | assumption | omega)
  | exact Or.inl ⟨by omega, by omega⟩
  | exact Or.inr ⟨by omega, by omega⟩
  | exact ⟨by decide, by decide, by decide⟩
  | exact log2_lt (by omega) (by omega)
  | exact ⟨by omega, by omega⟩)
local macro_rules | `(tactic| walk_at "ty") => `(tactic| first
  | exact ty_int | exact ty_bl | exact ty_str | exact ty_non
  | exact ty_L (by assumption) | exact ty_T (by assumption)
  | exact ty_L (SqL.of (by assumption)) | exact ty_T (SqT.of (by assumption)))
local macro_rules | `(tactic| walk_at "kit") => `(tactic| first
  | exact k_ii | exact k_ib | exact k_is | exact k_il | exact k_it
  | exact k_bb | exact k_bi | exact k_bs | exact k_bl | exact k_bt
  | exact k_ss | exact k_sb | exact k_si | exact k_sl | exact k_st
  | exact k_ll | exact k_lb | exact k_li | exact k_ls | exact k_lt
  | exact k_tt | exact k_tb | exact k_ti | exact k_ts | exact k_tl
  | exact k_nn | exact k_ni | exact k_ns | exact k_nl | exact k_nt)
local macro_rules | `(tactic| walk_at "s1") => `(tactic| first
  | with_reducible refine w_seq ?_
  | with_reducible refine w_set ?_
  | with_reducible refine w_op ?_
  | ((with_reducible refine' w_var ?h1 ?_); (case h1 => rfl))
  | with_reducible refine w_c ?_
  | with_reducible refine w_cb ?_
  | with_reducible refine w_cons ?_
  | with_reducible refine w_nil ?_
  | with_reducible refine w_I0 ?_
  | ((with_reducible refine' w_I ?c1 ?_); case c1 => walk_at "cond")
  | with_reducible refine w_ret ?_
  | with_reducible refine w_next ?_
  | with_reducible refine w_ifS ?_
  | with_reducible refine w_test ?_
  | with_reducible refine w_tB ?_
  | with_reducible refine w_k ?_
  | with_reducible refine w_eqI ?_
  | with_reducible refine w_neI ?_
  | with_reducible refine w_eqS ?_
  | with_reducible refine w_neS ?_
  | with_reducible refine w_and ?_
  | with_reducible refine w_or ?_
  | with_reducible refine w_not ?_
  | with_reducible refine w_andV ?_
  | with_reducible refine w_orV ?_
  | with_reducible refine w_notV ?_
  | with_reducible refine w_ifE ?_
  | with_reducible refine w_true ?_
  | with_reducible refine w_false ?_
  | with_reducible refine w_ntrue ?_
  | with_reducible refine w_nfalse ?_
  | with_reducible refine w_call ?_
  | with_reducible refine c_int ?_
  | with_reducible refine c_abs ?_
  | with_reducible refine c_max ?_
  | with_reducible refine c_min ?_
  | with_reducible refine w_drop ?_
  | with_reducible refine w_sfld ?_
  | with_reducible refine w_meth ?_
  | with_reducible refine w_make ?_
  | with_reducible refine w_prop ?_
  | with_reducible refine w_callK ?_
  | with_reducible refine w_callN ?_
  | with_reducible refine w_star ?_
  | with_reducible refine w_gcons ?_
  | with_reducible refine w_gname ?_
  | with_reducible refine w_gnil ?_
  | with_reducible refine w_retN ?_
  | with_reducible refine w_tup ?_
  | with_reducible refine w_lst ?_
  | with_reducible refine w_fld ?_
  | with_reducible refine w_bm ?_
  | with_reducible refine w_bm0 ?_
  | with_reducible refine w_forL ?_
  | with_reducible refine w_forT ?_
  | with_reducible refine w_forS ?_
  | with_reducible refine w_forR ?_
  | with_reducible refine w_lcR ?_
  | with_reducible refine w_lcL ?_
  | with_reducible refine w_lcT ?_
  | with_reducible refine w_isN ?_
  | with_reducible refine w_notN ?_
  | with_reducible refine w_asg ?_
  | with_reducible refine w_gsub ?_
  | ((with_reducible refine' w_aug ?h1 ?_); (case h1 => rfl))
  | with_reducible refine w_augS ?_
  | with_reducible refine w_ipI ?_
  | with_reducible refine w_un ?_
  | with_reducible refine w_U ?_
  | ((with_reducible refine' w_iteF ?f1 ?_); case f1 => (first | (intro h; cases h; done) | decide))
  | ((with_reducible refine' w_iteT ?f1 ?_); case f1 => rfl)
  | ((with_reducible refine' w_iteNF ?f1 ?_); case f1 => rfl)
  | ((with_reducible refine' w_iteNT ?f1 ?_); case f1 => (first | (intro h; cases h; done) | decide))
  | ((with_reducible refine' c_isi ?t1 ?k1 ?_); (case t1 => walk_at "ty"); (case k1 => walk_at "kit"))
  | ((with_reducible refine' w_eq ?e1 ?_); case e1 => rfl)
  | ((with_reducible refine' w_ne ?e1 ?_); case e1 => rfl)
  | walk_at "u1")
local macro_rules | `(tactic| walk_at "s") => `(tactic| repeat walk_at "s1")
local macro_rules | `(tactic| walk_at "mem") => `(tactic| first | with_reducible exact List.mem_cons_self .. | ((with_reducible refine' List.mem_cons_of_mem _ ?q); (case q => walk_at "mem")) | assumption | ((with_reducible refine' List.mem_append_right _ ?q); (case q => walk_at "mem")) | (exact List.mem_append_left _ (by assumption)))
local macro_rules | `(tactic| walk_at "pk") => `(tactic| first | with_reducible exact Pk.here | ((with_reducible refine' Pk.there ?q); (case q => walk_at "pk")) | ((with_reducible refine' Pk.app ?q); (case q => walk_at "pk")))
local macro_rules | `(tactic| walk_at "pkb") => `(tactic| first | with_reducible exact PkB.here | ((with_reducible refine' PkB.there ?q); (case q => walk_at "pkb")) | ((with_reducible refine' PkB.app ?q); (case q => walk_at "pkb")))
local macro_rules | `(tactic| walk_at "spl") => `(tactic| first | with_reducible exact Spl.nil | ((with_reducible refine' Spl.cons ?h ?t); (case h => walk_at "pk"); (case t => walk_at "spl")) | ((with_reducible refine' Spl.blk ?h ?t); (case h => walk_at "pkb"); (case t => walk_at "spl")))
local macro_rules | `(tactic| walk_at "sbx") => `(tactic| first | with_reducible exact Sb.refl | with_reducible exact Sb.nil | with_reducible exact Sb.left | ((with_reducible refine' Sb.cons ?h ?t); (case h => walk_at "pk"); (case t => walk_at "sbx")) | ((with_reducible refine' Sb.blk ?h ?t); (case h => walk_at "pkb"); (case t => walk_at "sbx")) | ((with_reducible refine' Sb.drop ?q); (case q => walk_at "sbx")) | ((with_reducible refine' Sb.right ?q); (case q => walk_at "sbx")))
local macro_rules | `(tactic| walk_at "hd") => `(tactic| first | assumption | exact Hd.sb (by assumption) (by walk_at "sbx"))
local macro_rules | `(tactic| walk_at "sq") => `(tactic| first
  | assumption
  | exact Hd.sqL (by assumption) (by walk_at "mem")
  | exact Hd.sqT (by assumption) (by walk_at "mem")
  | exact Hd.sqF (by assumption) (by walk_at "mem")
  | (refine .inl ?_; walk_at "sq")
  | (refine .inr ?_; walk_at "sq"))
local macro_rules | `(tactic| walk_at "at") => `(tactic| first | rfl | assumption | exact atI_nat (by assumption))
local macro_rules | `(tactic| walk_at "dn1") => `(tactic| first
  | exact Dn.int | exact Dn.str | exact Dn.non | exact Dn.bl | assumption
  | ((refine' Dn.tp ?a1 ?m1 ?l1 ?p1); (case a1 => assumption); (case m1 => walk_at "mem"); (case l1 => (simp only [List.length_cons, List.length_nil]; omega)); (case p1 => walk_at "dns"))
  | ((refine' Dn.lt ?a1 ?m1 ?l1 ?p1); (case a1 => assumption); (case m1 => walk_at "mem"); (case l1 => (simp only [List.length_cons, List.length_nil]; omega)); (case p1 => walk_at "dns")))
local macro_rules | `(tactic| walk_at "dns") => `(tactic| first | exact Paired.nil | exact Dn.ints | ((refine' Paired.cons ?a1 ?b1); (case a1 => walk_at "dn1"); (case b1 => walk_at "dns")))
local macro_rules | `(tactic| walk_at "g1") => `(tactic| first
  | ((with_reducible refine' g_ixI ?h1 ?h2 ?h3 ?_); (case h1 => assumption); (case h2 => walk_at "mem"); (case h3 => omega); intro z hz)
  | ((with_reducible refine' g_ixIT ?h1 ?h2 ?h3 ?_); (case h1 => assumption); (case h2 => walk_at "mem"); (case h3 => omega); intro z hz)
  | ((with_reducible refine' g_setI ?h1 ?h2 ?h3 ?_); (case h1 => assumption); (case h2 => walk_at "pk"); (case h3 => omega); intro H2 hh2)
  | ((with_reducible refine' w_ixL ?h1 ?h2 ?_); (case h1 => walk_at "sq"); (case h2 => walk_at "at"))
  | ((with_reducible refine' w_ixT ?h1 ?h2 ?_); (case h1 => walk_at "sq"); (case h2 => walk_at "at"))
  | ((with_reducible refine' w_ixAny ?h1 ?h2 ?_); (case h1 => walk_at "sq"); (case h2 => walk_at "at"))
  | ((with_reducible refine' c_lenA ?h1 ?_); (case h1 => walk_at "sq"))
  | ((with_reducible refine' c_isi ?t1 ?k1 ?_); (case t1 => first | exact ty_T (by walk_at "sq") | exact ty_L (by walk_at "sq")); (case k1 => walk_at "kit"))
  | ((with_reducible refine' g_lst ?h1 ?h2 ?_); (case h1 => assumption); (case h2 => walk_at "sz"); intro p H2 hh2)
  | ((with_reducible refine' g_tup ?h1 ?h2 ?_); (case h1 => assumption); (case h2 => walk_at "sz"); intro p H2 hh2)
  | ((with_reducible refine' g_dict ?h1 ?_); (case h1 => assumption); intro p H2 hh2)
  | ((with_reducible refine' g_listL ?h1 ?h2 ?_); (case h1 => assumption); (case h2 => walk_at "sq"); intro p H2 hh2)
  | ((with_reducible refine' g_listT ?h1 ?h2 ?_); (case h1 => assumption); (case h2 => walk_at "sq"); intro p H2 hh2)
  | ((with_reducible refine' g_tupL ?h1 ?h2 ?_); (case h1 => assumption); (case h2 => walk_at "sq"); intro p H2 hh2)
  | ((with_reducible refine' g_set ?h1 ?h2 ?h3 ?_); (case h1 => assumption); (case h2 => walk_at "pk"); (case h3 => first | rfl | assumption | exact Evl.ixN_nat (by first | omega | (simp only [List.length_cons, List.length_nil]; omega))); intro H2 hh2)
  | ((with_reducible refine' g_kbm ?h1 ?h2 ?_); (case h1 => assumption); (case h2 => walk_at "mem"))
  | ((with_reducible refine' g_kbm0 ?h1 ?h2 ?_); (case h1 => assumption); (case h2 => walk_at "mem"))
  | ((with_reducible refine' g_app ?h1 ?h2 ?h3 ?_); (case h1 => assumption); (case h2 => walk_at "pk"); (case h3 => walk_at "sz"); intro H2 hh2)
  | ((with_reducible refine' g_kapp ?h1 ?h2 ?h3 ?_); (case h1 => assumption); (case h2 => walk_at "pk"); (case h3 => walk_at "sz"); intro H2 hh2)
  | ((with_reducible refine' g_fld ?h1 ?h2 ?h3 ?h4 ?h5 ?_); (case h1 => assumption); (case h2 => walk_at "mem"); (case h3 => assumption); (case h4 => assumption); (case h5 => rfl))
  | ((with_reducible refine' g_sfld ?h1 ?h2 ?h3 ?h4 ?h5 ?_); (case h1 => assumption); (case h2 => walk_at "pk"); (case h3 => assumption); (case h4 => assumption); (case h5 => decide); intro H2 hh2)
  | ((with_reducible refine' g_meth ?h1 ?h2 ?h3 ?_); (case h1 => assumption); (case h2 => walk_at "mem"); (case h3 => rfl))
  | ((with_reducible refine' g_prop ?h1 ?h2 ?_); (case h1 => assumption); (case h2 => walk_at "mem"))
  | ((with_reducible refine' g_make ?h1 ?_); (case h1 => assumption); intro x H2 hh2)
  | ((with_reducible refine' g_cat ?h1 ?h2 ?h3 ?h4 ?_); (case h1 => assumption); (case h2 => walk_at "mem"); (case h3 => walk_at "mem"); (case h4 => walk_at "sz"); intro p H2 hh2)
  | ((with_reducible refine' g_inT ?h1 ?h2 ?h3 ?h4 ?h5 ?_); (case h1 => assumption); (case h2 => walk_at "mem"); (case h3 => rfl); (case h4 => rfl); (case h5 => rfl)))
local macro_rules | `(tactic| walk_at "gs") => `(tactic| repeat first | walk_at "s1" | walk_at "g1")
local macro_rules | `(tactic| walk_at "ite") => `(tactic| first
  | ((with_reducible refine' w_iteT ?h1 ?_); (case h1 => omega))
  | ((with_reducible refine' w_iteF ?h1 ?_); (case h1 => omega))
  | (with_reducible refine w_ite ?_ ?_ <;> intro hq)
  | ((with_reducible refine' w_iteNT ?h1 ?_); (case h1 => omega))
  | ((with_reducible refine' w_iteNF ?h1 ?_); (case h1 => omega))
  | (with_reducible refine w_iteN ?_ ?_ <;> intro hq))
local macro_rules | `(tactic| walk_at "go") => `(tactic| repeat' first | walk_at "s1" | walk_at "g1" | walk_at "ite")
local macro_rules | `(tactic| walk_at "g1") => `(tactic| first
  | ((with_reducible refine' g_take1 ?h1 ?h2 ?h3 ?h4 ?_); (case h1 => assumption); (case h2 => walk_at "spl"); (case h3 => omega); (case h4 => omega); intro k H2 hk1 hh2)
  | ((with_reducible refine' g_take ?h1 ?h2 ?h4 ?_); (case h1 => assumption); (case h2 => walk_at "spl"); (case h4 => omega); intro k H2 hk1 hh2)
  | ((with_reducible refine' g_betweenN ?h1 ?h2 ?h5 ?h3 ?h4 ?_); (case h1 => assumption); (case h2 => walk_at "spl"); (case h5 => omega); (case h3 => omega); (case h4 => omega); intro k H2 hk1 hk2 hh2)
  | ((with_reducible refine' g_between ?h1 ?h2 ?h3 ?h4 ?_); (case h1 => assumption); (case h2 => walk_at "spl"); (case h3 => omega); (case h4 => omega); intro k H2 hk1 hk2 hh2)
  | ((with_reducible refine' g_size ?h1 ?h2 ?h3 ?h4 ?_); (case h1 => assumption); (case h2 => walk_at "spl"); (case h3 => omega); (case h4 => omega); intro k H2 hk1 hh2)
  | ((with_reducible refine' g_word ?h1 ?h2 ?_); (case h1 => assumption); (case h2 => walk_at "spl"); intro k H2 hk1 hh2))
local macro_rules | `(tactic| walk_at "g1") => `(tactic| first | with_reducible refine w_sl ?_ | with_reducible refine w_part ?_ | with_reducible refine w_noPart ?_ | with_reducible refine w_exI ?_)
local macro_rules | `(tactic| walk_at "g1") => `(tactic| first | with_reducible refine w_din ?_ | with_reducible refine w_dnotin ?_ | with_reducible refine w_dget ?_ | with_reducible refine w_dput ?_ | with_reducible refine w_ddel ?_ | with_reducible refine w_dpop ?_)
section
variable {P : Program} {w : World} {K : PySem.W.Frag} {mg : Str → Option Value} {base : Heap} {aREG aOPS : Addr}
def KMK (C : Addr) (m : Str) (n : Nat) (sp : Sp) (gV : List V → List V → List V) (E : L2.St → XK) (tk : TA) (σ : L2.St) (Q : VK) (x : V) (H1 : Hp) : Prop := ∃ a dx fs, x = .ref a ∧ H1 a = some (.ins C dx fs) ∧ fs.lookup m = none ∧ tk σ H1 fun zs H2 => zs.length = n ∧ sp (gV [x] zs) H2 Q (E σ)
theorem w_methK {C : Addr} {m : Str} {n : Nat} {sp : Sp} {gV : List V → List V → List V} {E : L2.St → XK} {ta : TE} {tk : TA} {σ : L2.St} {H : Hp} {Q : VK} (h : ta σ H fun x H1 => KMK C m n sp gV E tk σ Q x H1) : tMethK C m n sp gV E ta tk σ H Q := h
theorem g_methK {C a : Addr} {m : Str} {n : Nat} {sp : Sp} {gV : List V → List V → List V} {E : L2.St → XK} {tk : TA} {σ : L2.St} {H : Hp} {Q : VK} {L : List Cell} {fs : List (Str × V)} (hh : Hd H L) (k : insC a C fs ∈ L) (l : fs.lookup m = none) (h : tk σ H fun zs H2 => zs.length = n ∧ sp (gV [.ref a] zs) H2 Q (E σ)) : KMK C m n sp gV E tk σ Q (.ref a) H := let ⟨dx, e⟩ := hh.ins k; ⟨a, dx, fs, rfl, e, l, h⟩
def sp_lisint : Sp := fun vs H Q _ => ∃ i lo hi : Int, vs = [.int i, .int lo, .int hi] ∧ lo ≤ i ∧ i ≤ hi ∧ Q (.bl true) H
theorem c_lisint (T : Txt K mg aREG aOPS) (d : DefAt K mg "_law_is_integer" s__law_is_integer) : C8.Cal P w K mg base 1 "_law_is_integer" sp_lisint [] := by
  refine mk d sc__law_is_integer (fun _ _ _ _ _ _ us hl => match us, hl with | [_, _, _], _ => rfl) (fun vs H Q E h => ?_) (fun fa cdv A outer s H vs Q E hr h => ?_)
  · obtain ⟨i, lo, hi, rfl, _⟩ := h
    rfl
  · obtain ⟨i, lo, hi, rfl, h1, h2, q⟩ := h
    refine ⟨_, (pss_one (ps_ret (pe_and (pe_callB call_isi (by rfl) T.b_isinstance (by decide +kernel) (pa_cons (pv 0) (pa_cons (pe_bltn (v := .ty "int") (by rfl) T.b_int (by decide +kernel) rfl) pa_nil))) (pe_and (pe_not (pe_callB call_isi (by rfl) T.b_isinstance (by decide +kernel) (pa_cons (pv 0) (pa_cons (pe_bltn (v := .ty "bool") (by rfl) T.b_bool (by decide +kernel) rfl) pa_nil)))) (pe_one (pe_chain op_le op_le (pv 1) (pv 0) (pv 2))))))), ?_⟩
    walk_at "gs"
    unfold tChain
    walk_at "gs"
    rw [if_pos (decide_eq_true h1)]
    walk_at "gs"
    rw [decide_eq_true h2]
    exact q
section
variable {C : Addr}
def sp_named (K : PySem.W.Frag) (C : Addr) : Sp := fun vs H Q _ => ∃ (o t : Addr) (d : Deed) (S : AgS) (Z R : List Cell), vs = [.ref o, .ref t] ∧ d ≠ .pick ∧ tupC t (dV d) ∈ R ∧ AgB C o S Z ∧ ok1 (domS S) d ∧ Hd H (Z ++ R) ∧ ∀ r S' Z' H', Out S d r S' → AgB C o S' Z' → Hd H' (Z' ++ R) → Q r H'
theorem c_named (T : Txt K mg aREG aOPS) (L : AgC K C) (d : DefAt K mg "_law_named" s__law_named) (kk_leave : MetK P w K mg base 5 C "leave" (sp_leave C) ["pid"] (fun vs zs => vs ++ zs)) (kk_wake : MetK P w K mg base 5 C "wake" (sp_deed C wakeM) ["pid"] (fun vs zs => vs ++ zs)) (kk_sleep : MetK P w K mg base 5 C "sleep" (sp_deed C sleepM) ["pid"] (fun vs zs => vs ++ zs))
    (kk_lend : MetK P w K mg base 5 C "lend" (sp_lend C) ["priority", "pid"] (fun vs zs => vs ++ zs.reverse)) (kk_enter : MetK P w K mg base 5 C "enter" (sp_enter C) ["ready", "priority", "pid"] (fun vs zs => vs ++ zs.reverse)) : C8.Cal P w K mg base 6 "_law_named" (sp_named K C) [] := by
  refine mk d sc__law_named (fun _ _ _ _ _ _ us hl => match us, hl with | [_, _], _ => rfl) (fun vs H Q E h => ?_) (fun fa cdv A outer s H vs Q E hr h => ?_)
  · obtain ⟨o, t, d, S, Z, R, rfl, _⟩ := h
    rfl
  · obtain ⟨o, t, d, S, Z, R, rfl, hnp, ht, hb, hok, hh, q⟩ := h
    refine ⟨_, (pss_cons (ps_if (pt_cmpR op_eq (pe_ix ix_tup (pv 1) pe_int (fun _ _ => rfl)) pe_str (nomark _))
    (pss_one (ps_ret (Wk.pe_mtK kk_leave hr (by first | decide | omega) (pv 0) (pk_cons (pe_ix ix_tup (pv 1) pe_int (fun _ _ => rfl)) pk_nil))))
    pss_nil)
  (pss_cons (ps_if (pt_cmpR op_eq (pe_ix ix_tup (pv 1) pe_int (fun _ _ => rfl)) pe_str (nomark _))
    (pss_one (ps_ret (Wk.pe_mtK kk_wake hr (by first | decide | omega) (pv 0) (pk_cons (pe_ix ix_tup (pv 1) pe_int (fun _ _ => rfl)) pk_nil))))
    pss_nil)
  (pss_cons (ps_if (pt_cmpR op_eq (pe_ix ix_tup (pv 1) pe_int (fun _ _ => rfl)) pe_str (nomark _))
    (pss_one (ps_ret (Wk.pe_mtK kk_sleep hr (by first | decide | omega) (pv 0) (pk_cons (pe_ix ix_tup (pv 1) pe_int (fun _ _ => rfl)) pk_nil))))
    pss_nil)
  (pss_cons (ps_if (pt_cmpR op_eq (pe_ix ix_tup (pv 1) pe_int (fun _ _ => rfl)) pe_str (nomark _))
    (pss_one (ps_ret (Wk.pe_mtK kk_lend hr (by first | decide | omega) (pv 0) (pk_cons (pe_ix ix_tup (pv 1) pe_int (fun _ _ => rfl)) (pk_cons (pe_ix ix_tup (pv 1) pe_int (fun _ _ => rfl)) pk_nil)))))
    pss_nil)
  (pss_one (ps_ret (Wk.pe_mtK kk_enter hr (by first | decide | omega) (pv 0) (pk_cons (pe_ix ix_tup (pv 1) pe_int (fun _ _ => rfl)) (pk_cons (pe_ix ix_tup (pv 1) pe_int (fun _ _ => rfl)) (pk_cons (pe_ix ix_tup (pv 1) pe_int (fun _ _ => rfl)) pk_nil)))))))))), ?_⟩
    have hb2 := hb
    obtain ⟨dd, Z1, tb, rfl⟩ := hb
    have h1 : Hd H (agI o C dd :: (Z1 ++ R)) := hh
    have ht2 : tupC t (dV d) ∈ agI o C dd :: (Z1 ++ R) := List.mem_cons_of_mem _ (List.mem_append_right _ ht)
    have sq := h1.sqT (K := K) ht2
    have get : ∀ {k : Nat}, domS S k = true → ∃ m, S k = some m := fun h => Option.isSome_iff_exists.mp h
    cases d with
    | pick => exact absurd rfl hnp
    | leave k =>
      have sq : SqT K H t [V.str (Str.ofString "leave"), V.int (k : Int)] := sq
      walk_at "gs"
      refine w_methK ?_
      walk_at "gs"
      refine g_methK h1 (List.mem_cons_self ..) rfl ?_
      walk_at "gs"
      refine ⟨rfl, ?_⟩
      obtain ⟨m, hk⟩ := get hok
      exact ⟨o, k, m, S, _, R, rfl, hb2, hk, hh, fun Z' H' hb' h' => q _ _ _ H' (.inr ⟨(fun z => by cases z), rfl, rfl⟩) hb' h'⟩
    | wake k =>
      have sq : SqT K H t [V.str (Str.ofString "wake"), V.int (k : Int)] := sq
      walk_at "gs"
      refine w_methK ?_
      walk_at "gs"
      refine g_methK h1 (List.mem_cons_self ..) rfl ?_
      walk_at "gs"
      refine ⟨rfl, ?_⟩
      obtain ⟨m, hk⟩ := get hok
      exact ⟨o, k, m, S, _, R, rfl, hb2, hk, hh, fun Z' H' hb' h' => q _ _ _ H' (.inr ⟨(fun z => by cases z), rfl, by rw [show stepS S (.wake k) = upS S k ((S k).map wakeM) from rfl, hk]; rfl⟩) hb' h'⟩
    | sleep k =>
      have sq : SqT K H t [V.str (Str.ofString "sleep"), V.int (k : Int)] := sq
      walk_at "gs"
      refine w_methK ?_
      walk_at "gs"
      refine g_methK h1 (List.mem_cons_self ..) rfl ?_
      walk_at "gs"
      refine ⟨rfl, ?_⟩
      obtain ⟨m, hk⟩ := get hok
      exact ⟨o, k, m, S, _, R, rfl, hb2, hk, hh, fun Z' H' hb' h' => q _ _ _ H' (.inr ⟨(fun z => by cases z), rfl, by rw [show stepS S (.sleep k) = upS S k ((S k).map sleepM) from rfl, hk]; rfl⟩) hb' h'⟩
    | lend k p =>
      have sq : SqT K H t [V.str (Str.ofString "lend"), V.int (k : Int), V.int (p : Int)] := sq
      walk_at "gs"
      refine w_methK ?_
      walk_at "gs"
      refine g_methK h1 (List.mem_cons_self ..) rfl ?_
      walk_at "gs"
      refine ⟨rfl, ?_⟩
      obtain ⟨m, hk⟩ := get hok.2
      exact ⟨o, k, p, m, S, _, R, rfl, hok.1, hb2, hk, hh, fun Z' H' hb' h' => q _ _ _ H' (.inr ⟨(fun z => by cases z), rfl, by rw [show stepS S (.lend k p) = upS S k ((S k).map fun m => { m with lent := p }) from rfl, hk]; rfl⟩) hb' h'⟩
    | enter k p r =>
      have sq : SqT K H t [V.str (Str.ofString "enter"), V.int (k : Int), V.int (p : Int), V.bl r] := sq
      walk_at "gs"
      refine w_methK ?_
      walk_at "gs"
      refine g_methK h1 (List.mem_cons_self ..) rfl ?_
      walk_at "gs"
      refine ⟨rfl, ?_⟩
      obtain ⟨hk8, hp7, hno⟩ := hok
      have hno : S k = none := by
        cases e : S k with
        | none => rfl
        | some x => rw [show domS S k = (S k).isSome from rfl, e] at hno; cases hno
      exact ⟨o, k, p, r, S, _, R, rfl, by omega, hp7, hb2, hno, hh, fun Z' H' hb' h' => q _ _ _ H' (.inr ⟨(fun z => by cases z), rfl, rfl⟩) hb' h'⟩
end
end
end K23
set_option Elab.async false
set_option linter.all false
set_option maxRecDepth 100000
set_option maxHeartbeats 4000000
namespace K23
open PySem PySem.Spec PyProof.Rows L2 Wk
local macro_rules | `(tactic| walk_at "u1") => `(tactic| fail "no more")
local macro_rules | `(tactic| walk_at "pos") => `(tactic| first | assumption | omega | decide | (simp only [Int.ofNat_eq_natCast] at *; omega))
local macro_rules | `(tactic| walk_at "sz") => `(tactic| first
  | (simp only [List.length_cons, List.length_nil]; decide)
  | exact Evl.sz_of (by omega)
  | exact Evl.sz_lt (by omega)
  | exact Evl.sz_of (by simp only [List.length_map, List.length_append, List.length_cons, List.length_nil, List.length_replicate]; omega)
  | exact Evl.sz_lt (by simp only [List.length_map, List.length_append, List.length_cons, List.length_nil, List.length_replicate]; omega))
local macro_rules | `(tactic| walk_at "cond") => `(tactic| first
  | exact Or.inr ⟨by decide, by decide⟩
  | (show (0 : Int) < _; first | decide | assumption | omega)
  | exact Or.inl ⟨by omega, by omega⟩
  | exact Or.inr ⟨by omega, by omega⟩
  | exact ⟨by decide, by decide, by decide⟩
  | exact log2_lt (by omega) (by omega)
  | exact ⟨by omega, by omega⟩)
local macro_rules | `(tactic| walk_at "ty") => `(tactic| first
  | exact ty_int | exact ty_bl | exact ty_str | exact ty_non
  | exact ty_L (by assumption) | exact ty_T (by assumption)
  | exact ty_L (SqL.of (by assumption)) | exact ty_T (SqT.of (by assumption)))
local macro_rules | `(tactic| walk_at "kit") => `(tactic| first
  | exact k_ii | exact k_ib | exact k_is | exact k_il | exact k_it
  | exact k_bb | exact k_bi | exact k_bs | exact k_bl | exact k_bt
  | exact k_ss | exact k_sb | exact k_si | exact k_sl | exact k_st
  | exact k_ll | exact k_lb | exact k_li | exact k_ls | exact k_lt
  | exact k_tt | exact k_tb | exact k_ti | exact k_ts | exact k_tl
  | exact k_nn | exact k_ni | exact k_ns | exact k_nl | exact k_nt)
local macro_rules | `(tactic| walk_at "s1") => `(tactic| first
  | with_reducible refine w_seq ?_
  | with_reducible refine w_set ?_
  | with_reducible refine w_op ?_
  | ((with_reducible refine' w_var ?h1 ?_); (case h1 => rfl))
  | with_reducible refine w_c ?_
  | with_reducible refine w_cb ?_
  | with_reducible refine w_cons ?_
  | with_reducible refine w_nil ?_
  | with_reducible refine w_I0 ?_
  | ((with_reducible refine' w_I ?c1 ?_); case c1 => walk_at "cond")
  | with_reducible refine w_ret ?_
  | with_reducible refine w_next ?_
  | with_reducible refine w_ifS ?_
  | with_reducible refine w_test ?_
  | with_reducible refine w_tB ?_
  | with_reducible refine w_k ?_
  | with_reducible refine w_eqI ?_
  | with_reducible refine w_neI ?_
  | with_reducible refine w_eqS ?_
  | with_reducible refine w_neS ?_
  | with_reducible refine w_and ?_
  | with_reducible refine w_or ?_
  | with_reducible refine w_not ?_
  | with_reducible refine w_andV ?_
  | with_reducible refine w_orV ?_
  | with_reducible refine w_notV ?_
  | with_reducible refine w_ifE ?_
  | with_reducible refine w_true ?_
  | with_reducible refine w_false ?_
  | with_reducible refine w_ntrue ?_
  | with_reducible refine w_nfalse ?_
  | with_reducible refine w_call ?_
  | with_reducible refine c_int ?_
  | with_reducible refine c_abs ?_
  | with_reducible refine c_max ?_
  | with_reducible refine c_min ?_
  | with_reducible refine w_drop ?_
  | with_reducible refine w_sfld ?_
  | with_reducible refine w_meth ?_
  | with_reducible refine w_make ?_
  | with_reducible refine w_prop ?_
  | with_reducible refine w_callK ?_
  | with_reducible refine w_callN ?_
  | with_reducible refine w_star ?_
  | with_reducible refine w_gcons ?_
  | with_reducible refine w_gname ?_
  | with_reducible refine w_gnil ?_
  | with_reducible refine w_retN ?_
  | with_reducible refine w_tup ?_
  | with_reducible refine w_lst ?_
  | with_reducible refine w_fld ?_
  | with_reducible refine w_bm ?_
  | with_reducible refine w_bm0 ?_
  | with_reducible refine w_forL ?_
  | with_reducible refine w_forT ?_
  | with_reducible refine w_forS ?_
  | with_reducible refine w_forR ?_
  | with_reducible refine w_lcR ?_
  | with_reducible refine w_lcL ?_
  | with_reducible refine w_lcT ?_
  | with_reducible refine w_isN ?_
  | with_reducible refine w_notN ?_
  | with_reducible refine w_asg ?_
  | with_reducible refine w_gsub ?_
  | ((with_reducible refine' w_aug ?h1 ?_); (case h1 => rfl))
  | with_reducible refine w_augS ?_
  | with_reducible refine w_ipI ?_
  | with_reducible refine w_un ?_
  | with_reducible refine w_U ?_
  | ((with_reducible refine' w_iteF ?f1 ?_); case f1 => (first | (intro h; cases h; done) | decide))
  | ((with_reducible refine' w_iteT ?f1 ?_); case f1 => rfl)
  | ((with_reducible refine' w_iteNF ?f1 ?_); case f1 => rfl)
  | ((with_reducible refine' w_iteNT ?f1 ?_); case f1 => (first | (intro h; cases h; done) | decide))
  | ((with_reducible refine' c_isi ?t1 ?k1 ?_); (case t1 => walk_at "ty"); (case k1 => walk_at "kit"))
  | ((with_reducible refine' w_eq ?e1 ?_); case e1 => rfl)
  | ((with_reducible refine' w_ne ?e1 ?_); case e1 => rfl)
  | walk_at "u1")
local macro_rules | `(tactic| walk_at "s") => `(tactic| repeat walk_at "s1")
local macro_rules | `(tactic| walk_at "mem") => `(tactic| first | with_reducible exact List.mem_cons_self .. | ((with_reducible refine' List.mem_cons_of_mem _ ?q); (case q => walk_at "mem")) | assumption | ((with_reducible refine' List.mem_append_right _ ?q); (case q => walk_at "mem")) | (exact List.mem_append_left _ (by assumption)))
local macro_rules | `(tactic| walk_at "pk") => `(tactic| first | with_reducible exact Pk.here | ((with_reducible refine' Pk.there ?q); (case q => walk_at "pk")) | ((with_reducible refine' Pk.app ?q); (case q => walk_at "pk")))
local macro_rules | `(tactic| walk_at "pkb") => `(tactic| first | with_reducible exact PkB.here | ((with_reducible refine' PkB.there ?q); (case q => walk_at "pkb")) | ((with_reducible refine' PkB.app ?q); (case q => walk_at "pkb")))
local macro_rules | `(tactic| walk_at "spl") => `(tactic| first | with_reducible exact Spl.nil | ((with_reducible refine' Spl.cons ?h ?t); (case h => walk_at "pk"); (case t => walk_at "spl")) | ((with_reducible refine' Spl.blk ?h ?t); (case h => walk_at "pkb"); (case t => walk_at "spl")))
local macro_rules | `(tactic| walk_at "sbx") => `(tactic| first | with_reducible exact Sb.refl | with_reducible exact Sb.nil | with_reducible exact Sb.left | ((with_reducible refine' Sb.cons ?h ?t); (case h => walk_at "pk"); (case t => walk_at "sbx")) | ((with_reducible refine' Sb.blk ?h ?t); (case h => walk_at "pkb"); (case t => walk_at "sbx")) | ((with_reducible refine' Sb.drop ?q); (case q => walk_at "sbx")) | ((with_reducible refine' Sb.right ?q); (case q => walk_at "sbx")))
local macro_rules | `(tactic| walk_at "hd") => `(tactic| first | assumption | exact Hd.sb (by assumption) (by walk_at "sbx"))
local macro_rules | `(tactic| walk_at "sq") => `(tactic| first
  | assumption
  | exact Hd.sqL (by assumption) (by walk_at "mem")
  | exact Hd.sqT (by assumption) (by walk_at "mem")
  | exact Hd.sqF (by assumption) (by walk_at "mem")
  | (refine .inl ?_; walk_at "sq")
  | (refine .inr ?_; walk_at "sq"))
local macro_rules | `(tactic| walk_at "at") => `(tactic| first | rfl | assumption | exact atI_nat (by assumption))
local macro_rules | `(tactic| walk_at "dn1") => `(tactic| first
  | exact Dn.int | exact Dn.str | exact Dn.non | exact Dn.bl | assumption
  | ((refine' Dn.tp ?a1 ?m1 ?l1 ?p1); (case a1 => assumption); (case m1 => walk_at "mem"); (case l1 => (simp only [List.length_cons, List.length_nil]; omega)); (case p1 => walk_at "dns"))
  | ((refine' Dn.lt ?a1 ?m1 ?l1 ?p1); (case a1 => assumption); (case m1 => walk_at "mem"); (case l1 => (simp only [List.length_cons, List.length_nil]; omega)); (case p1 => walk_at "dns")))
local macro_rules | `(tactic| walk_at "dns") => `(tactic| first | exact Paired.nil | exact Dn.ints | ((refine' Paired.cons ?a1 ?b1); (case a1 => walk_at "dn1"); (case b1 => walk_at "dns")))
local macro_rules | `(tactic| walk_at "g1") => `(tactic| first
  | ((with_reducible refine' g_ixI ?h1 ?h2 ?h3 ?_); (case h1 => assumption); (case h2 => walk_at "mem"); (case h3 => omega); intro z hz)
  | ((with_reducible refine' g_ixIT ?h1 ?h2 ?h3 ?_); (case h1 => assumption); (case h2 => walk_at "mem"); (case h3 => omega); intro z hz)
  | ((with_reducible refine' g_setI ?h1 ?h2 ?h3 ?_); (case h1 => assumption); (case h2 => walk_at "pk"); (case h3 => omega); intro H2 hh2)
  | ((with_reducible refine' w_ixL ?h1 ?h2 ?_); (case h1 => walk_at "sq"); (case h2 => walk_at "at"))
  | ((with_reducible refine' w_ixT ?h1 ?h2 ?_); (case h1 => walk_at "sq"); (case h2 => walk_at "at"))
  | ((with_reducible refine' w_ixAny ?h1 ?h2 ?_); (case h1 => walk_at "sq"); (case h2 => walk_at "at"))
  | ((with_reducible refine' c_lenA ?h1 ?_); (case h1 => walk_at "sq"))
  | ((with_reducible refine' c_isi ?t1 ?k1 ?_); (case t1 => first | exact ty_T (by walk_at "sq") | exact ty_L (by walk_at "sq")); (case k1 => walk_at "kit"))
  | ((with_reducible refine' g_lst ?h1 ?h2 ?_); (case h1 => assumption); (case h2 => walk_at "sz"); intro p H2 hh2)
  | ((with_reducible refine' g_tup ?h1 ?h2 ?_); (case h1 => assumption); (case h2 => walk_at "sz"); intro p H2 hh2)
  | ((with_reducible refine' g_dict ?h1 ?_); (case h1 => assumption); intro p H2 hh2)
  | ((with_reducible refine' g_listL ?h1 ?h2 ?_); (case h1 => assumption); (case h2 => walk_at "sq"); intro p H2 hh2)
  | ((with_reducible refine' g_listT ?h1 ?h2 ?_); (case h1 => assumption); (case h2 => walk_at "sq"); intro p H2 hh2)
  | ((with_reducible refine' g_tupL ?h1 ?h2 ?_); (case h1 => assumption); (case h2 => walk_at "sq"); intro p H2 hh2)
  | ((with_reducible refine' g_set ?h1 ?h2 ?h3 ?_); (case h1 => assumption); (case h2 => walk_at "pk"); (case h3 => first | rfl | assumption | exact Evl.ixN_nat (by first | omega | (simp only [List.length_cons, List.length_nil]; omega))); intro H2 hh2)
  | ((with_reducible refine' g_kbm ?h1 ?h2 ?_); (case h1 => assumption); (case h2 => walk_at "mem"))
  | ((with_reducible refine' g_kbm0 ?h1 ?h2 ?_); (case h1 => assumption); (case h2 => walk_at "mem"))
  | ((with_reducible refine' g_app ?h1 ?h2 ?h3 ?_); (case h1 => assumption); (case h2 => walk_at "pk"); (case h3 => walk_at "sz"); intro H2 hh2)
  | ((with_reducible refine' g_kapp ?h1 ?h2 ?h3 ?_); (case h1 => assumption); (case h2 => walk_at "pk"); (case h3 => walk_at "sz"); intro H2 hh2)
  | ((with_reducible refine' g_fld ?h1 ?h2 ?h3 ?h4 ?h5 ?_); (case h1 => assumption); (case h2 => walk_at "mem"); (case h3 => assumption); (case h4 => assumption); (case h5 => rfl))
  | ((with_reducible refine' g_sfld ?h1 ?h2 ?h3 ?h4 ?h5 ?_); (case h1 => assumption); (case h2 => walk_at "pk"); (case h3 => assumption); (case h4 => assumption); (case h5 => decide); intro H2 hh2)
  | ((with_reducible refine' g_meth ?h1 ?h2 ?h3 ?_); (case h1 => assumption); (case h2 => walk_at "mem"); (case h3 => rfl))
  | ((with_reducible refine' g_prop ?h1 ?h2 ?_); (case h1 => assumption); (case h2 => walk_at "mem"))
  | ((with_reducible refine' g_make ?h1 ?_); (case h1 => assumption); intro x H2 hh2)
  | ((with_reducible refine' g_cat ?h1 ?h2 ?h3 ?h4 ?_); (case h1 => assumption); (case h2 => walk_at "mem"); (case h3 => walk_at "mem"); (case h4 => walk_at "sz"); intro p H2 hh2)
  | ((with_reducible refine' g_inT ?h1 ?h2 ?h3 ?h4 ?h5 ?_); (case h1 => assumption); (case h2 => walk_at "mem"); (case h3 => rfl); (case h4 => rfl); (case h5 => rfl)))
local macro_rules | `(tactic| walk_at "gs") => `(tactic| repeat first | walk_at "s1" | walk_at "g1")
local macro_rules | `(tactic| walk_at "ite") => `(tactic| first
  | ((with_reducible refine' w_iteT ?h1 ?_); (case h1 => omega))
  | ((with_reducible refine' w_iteF ?h1 ?_); (case h1 => omega))
  | (with_reducible refine w_ite ?_ ?_ <;> intro hq)
  | ((with_reducible refine' w_iteNT ?h1 ?_); (case h1 => omega))
  | ((with_reducible refine' w_iteNF ?h1 ?_); (case h1 => omega))
  | (with_reducible refine w_iteN ?_ ?_ <;> intro hq))
local macro_rules | `(tactic| walk_at "go") => `(tactic| repeat' first | walk_at "s1" | walk_at "g1" | walk_at "ite")
local macro_rules | `(tactic| walk_at "g1") => `(tactic| first
  | ((with_reducible refine' g_take1 ?h1 ?h2 ?h3 ?h4 ?_); (case h1 => assumption); (case h2 => walk_at "spl"); (case h3 => omega); (case h4 => omega); intro k H2 hk1 hh2)
  | ((with_reducible refine' g_take ?h1 ?h2 ?h4 ?_); (case h1 => assumption); (case h2 => walk_at "spl"); (case h4 => omega); intro k H2 hk1 hh2)
  | ((with_reducible refine' g_betweenN ?h1 ?h2 ?h5 ?h3 ?h4 ?_); (case h1 => assumption); (case h2 => walk_at "spl"); (case h5 => omega); (case h3 => omega); (case h4 => omega); intro k H2 hk1 hk2 hh2)
  | ((with_reducible refine' g_between ?h1 ?h2 ?h3 ?h4 ?_); (case h1 => assumption); (case h2 => walk_at "spl"); (case h3 => omega); (case h4 => omega); intro k H2 hk1 hk2 hh2)
  | ((with_reducible refine' g_size ?h1 ?h2 ?h3 ?h4 ?_); (case h1 => assumption); (case h2 => walk_at "spl"); (case h3 => omega); (case h4 => omega); intro k H2 hk1 hh2)
  | ((with_reducible refine' g_word ?h1 ?h2 ?_); (case h1 => assumption); (case h2 => walk_at "spl"); intro k H2 hk1 hh2))
local macro_rules | `(tactic| walk_at "g1") => `(tactic| first | with_reducible refine w_sl ?_ | with_reducible refine w_part ?_ | with_reducible refine w_noPart ?_ | with_reducible refine w_exI ?_)
local macro_rules | `(tactic| walk_at "g1") => `(tactic| first | with_reducible refine w_din ?_ | with_reducible refine w_dnotin ?_ | with_reducible refine w_dget ?_ | with_reducible refine w_dput ?_ | with_reducible refine w_ddel ?_ | with_reducible refine w_dpop ?_)
section
variable {P : Program} {w : World} {K : PySem.W.Frag} {mg : Str → Option Value} {base : Heap} {aREG aOPS : Addr}
/-! ### tables of rows -/
abbrev rowV (k : Nat) (m : Mb) : List V := .int (k : Int) :: mbV m
/-- the rows xs of the members ks, over the cells Y -/
def RowsIn (K : PySem.W.Frag) (S : AgS) (ks : List Nat) (xs : List V) (Y : List Cell) : Prop := ∀ H, Hd H Y → Paired (Dn K [] H 1) xs (rowsP S ks)
theorem dn_row {H : Hp} {x : V} {k : Nat} {m : Mb} (h : Dn K [] H 1 x (mbP k m)) : ∃ t, x = .ref t ∧ SqT K H t (rowV k m) := by
  rcases h with h | ⟨a, xs, ds, _, e, _⟩ | ⟨a, xs, ds, rfl, e, _, hs, _, hp⟩
  · cases h
  · cases e
  · cases e
    refine ⟨a, rfl, ?_⟩
    cases hp with | cons h1 hp =>
    cases hp with | cons h2 hp =>
    cases hp with | cons h3 hp =>
    cases hp with | cons h4 hp =>
    cases hp with | cons h5 hp =>
    cases hp
    cases h1; cases h2; cases h3; cases h4; cases h5
    exact hs
theorem RowsIn.len {S : AgS} {ks : List Nat} {xs : List V} {Y L : List Cell} {H : Hp} (h : RowsIn K S ks xs Y) (hh : Hd H (Y ++ L)) : xs.length = ks.length := by
  have := (h H (hh.sb Sb.left)).length
  unfold rowsP at this
  rw [List.length_map] at this
  exact this
/-- a row -/
theorem RowsIn.at_ {S : AgS} {ks : List Nat} {xs : List V} {Y L : List Cell} {H : Hp} {i : Nat} {x : V} (h : RowsIn K S ks xs Y) (hk : ∀ k ∈ ks, (S k).isSome = true) (hx : xs[i]? = some x) (hh : Hd H (Y ++ L)) : ∃ k m t, ks[i]? = some k ∧ S k = some m ∧ x = .ref t ∧ ∀ H' L', Hd H' (Y ++ L') → SqT K H' t (rowV k m) := by
  have hl := h.len hh
  have hi : i < ks.length := by rw [← hl]; exact (List.getElem?_eq_some_iff.mp hx).1
  have hks : ks[i]? = some ks[i] := List.getElem?_eq_getElem hi
  obtain ⟨m, hm⟩ := Option.isSome_iff_exists.mp (hk _ (List.getElem_mem hi))
  have dn : ∀ H' L', Hd H' (Y ++ L') → Dn K [] H' 1 x (mbP ks[i] m) := fun H' L' hh' => by
    obtain ⟨d, hd, dn⟩ := paired_at (h H' (hh'.sb Sb.left)) hx
    unfold rowsP at hd
    rw [List.getElem?_map, hks] at hd
    cases hd
    have e : ((S ks[i]).map (mbP ks[i])).getD .none = mbP ks[i] m := by rw [hm]; rfl
    exact e ▸ dn
  obtain ⟨t, rfl, _⟩ := dn_row (dn H L hh)
  refine ⟨_, m, t, hks, hm, rfl, fun H' L' hh' => ?_⟩
  obtain ⟨t', e, hs⟩ := dn_row (dn H' L' hh')
  cases e
  exact hs
theorem keys_some {S : AgS} : ∀ k ∈ keys8 S, (S k).isSome = true := fun k h => (keysS_mem.mp h).2
def sp_drawn (K : PySem.W.Frag) : Sp := fun vs H Q _ => ∃ (st c a : Addr) (S : AgS) (xs : List V) (Y R : List Cell), vs = [.ref st, .ref a] ∧ RowsIn K S (keys8 S) xs Y ∧ Hd H (stoC st c :: scrC c :: lstC a xs :: (Y ++ R)) ∧ ∀ t (d : Deed) H', ok1 (domS S) d → Hd H' (tupC t (dV d) :: stoC st c :: scrC c :: lstC a xs :: (Y ++ R)) → Q (.ref t) H'
theorem c_drawn (T : Txt K mg aREG aOPS) (d : DefAt K mg "_law_drawn" s__law_drawn) (c__law_take : C8.Cal P w K mg base 2 "_law_take" sp_take []) (c__law_pick : C8.Cal P w K mg base 3 "_law_pick" (sp_pick K) []) (c__law_between : C8.Cal P w K mg base 3 "_law_between" sp_between []) : C8.Cal P w K mg base 4 "_law_drawn" (sp_drawn K) [] := by
  refine mk d sc__law_drawn (fun _ _ _ _ _ _ us hl => match us, hl with | [_, _], _ => rfl) (fun vs H Q E h => ?_) (fun fa cdv A outer s H vs Q E hr h => ?_)
  · obtain ⟨st, c, a, S, xs, Y, R, rfl, _⟩ := h
    rfl
  · obtain ⟨st, c, a, S, xs, Y, R, rfl, hY, hh, q⟩ := h
    have hkl := keys_len S
    have hxl : xs.length = (keys8 S).length := hY.len (show Hd H (Y ++ _) from Hd.sb (A := Y ++ (stoC st c :: scrC c :: lstC a xs :: R)) hh (by walk_at "sbx"))
    refine ⟨_, (pss_cons (ps_setLc (i := 2) (own := [("row", 5)]) rfl sc__law_drawn.nd rfl rfl (sw_true rfl rfl rfl (by decide +kernel)) (pi_list (pv 1)) (blkOk_by (own := [("row", 5)]) (N := nm__law_drawn) (sc := defScope s__law_drawn) (by decide +kernel)) (fun _ _ _ _ _ => (pg_name (i := 5) sc__law_drawn.nd rfl (Or.inl rfl))) (fun _ _ _ _ _ => pts_nil) (fun _ _ _ _ _ => (pe_ix (show IxR _ (rIxT K) from ix_tup) (pv 5) pe_int (fun _ _ => rfl))))
  (pss_cons (ps_set (i := 3) sc__law_drawn.nd rfl (Or.inl rfl) (C8.pe_c c__law_take hr (by first | decide | omega) rfl (pa_cons (pv 0) (pa_cons pe_int pa_nil))))
  (pss_cons (ps_if (PW.pt (pw_and (pt_cmpR op_gt (pe_callB Wk.b_len (by rfl) T.b_len (by decide +kernel) (pa_cons (pv 2) pa_nil)) pe_int (nomark _)) (pw_and1 (pt_cmpR op_gt (C8.pe_c c__law_take hr (by first | decide | omega) rfl (pa_cons (pv 0) (pa_cons pe_int pa_nil))) pe_int (nomark _)))))
    (pss_one (ps_set (i := 3) sc__law_drawn.nd rfl (Or.inl rfl) (C8.pe_c c__law_pick hr (by first | decide | omega) rfl (pa_cons (pv 0) (pa_cons (pv 2) pa_nil)))))
    pss_nil)
  (pss_cons (ps_set (i := 4) sc__law_drawn.nd rfl (Or.inl rfl) (C8.pe_c c__law_take hr (by first | decide | omega) rfl (pa_cons (pv 0) (pa_cons pe_int pa_nil))))
  (pss_cons (ps_if (pt_cmpR op_gt (pv 4) pe_int (nomark _))
    (pss_one (ps_ret (pe_tup (pa_cons pe_str pa_nil))))
    pss_nil)
  (pss_cons (ps_if (pt_cmpR op_notIn_seq (pv 3) (pv 2) (by rfl))
    (pss_one (ps_ret (pe_tup (pa_cons pe_str (pa_cons (pv 3) (pa_cons (C8.pe_c c__law_between hr (by first | decide | omega) rfl (pa_cons (pv 0) (pa_cons pe_int (pa_cons pe_int pa_nil)))) (pa_cons (pe_cmpR op_eq (C8.pe_c c__law_take hr (by first | decide | omega) rfl (pa_cons (pv 0) (pa_cons pe_int pa_nil))) pe_int (nomark _)) pa_nil)))))))
    pss_nil)
  (pss_cons (ps_if (pt_cmpR op_lt (pv 4) pe_int (nomark _))
    (pss_one (ps_ret (pe_tup (pa_cons pe_str (pa_cons (pv 3) pa_nil)))))
    pss_nil)
  (pss_cons (ps_if (pt_cmpR op_lt (pv 4) pe_int (nomark _))
    (pss_one (ps_ret (pe_tup (pa_cons pe_str (pa_cons (pv 3) (pa_cons (C8.pe_c c__law_between hr (by first | decide | omega) rfl (pa_cons (pv 0) (pa_cons pe_int (pa_cons pe_int pa_nil)))) pa_nil))))))
    pss_nil)
  (pss_cons (ps_if (pt_cmpR op_lt (pv 4) pe_int (nomark _))
    (pss_one (ps_ret (pe_tup (pa_cons pe_str (pa_cons (pv 3) pa_nil)))))
    pss_nil)
  (pss_one (ps_ret (pe_tup (pa_cons pe_str (pa_cons (pv 3) pa_nil)))))))))))))), ?_⟩
    walk_at "gs"
    refine g_lcL hh (hh.sqL (by walk_at "mem")) (fun i D H => i ≤ 8 ∧ Hd H (lstC D (natV ((keys8 S).take i)) :: stoC st c :: scrC c :: lstC a xs :: (Y ++ R))) (fun D H1 h1 => ⟨by omega, h1⟩) (fun i D H _ h => h.2.sqL (by walk_at "mem")) ?_ ?_
    · rintro i x D H3 hx ⟨hi8, h3⟩
      obtain ⟨k, m, tt, hk, hm, rfl, hrow⟩ := hY.at_ keys_some hx (show Hd H3 (Y ++ _) from Hd.sb (A := Y ++ (lstC D (natV (List.take i (keys8 S))) :: stoC st c :: scrC c :: lstC a xs :: R)) h3 (by walk_at "sbx"))
      have hr3 := hrow H3 (lstC D (natV (List.take i (keys8 S))) :: stoC st c :: scrC c :: lstC a xs :: R) (Hd.sb h3 (by walk_at "sbx"))
      have hi : i < (keys8 S).length := (List.getElem?_eq_some_iff.mp hk).1
      have hnl := natV_len (List.take i (keys8 S))
      have htl : (List.take i (keys8 S)).length ≤ 8 := Nat.le_trans (List.length_take_le' ..) hkl
      clear hh
      walk_at "gs"
      rename_i H4 h4
      refine ⟨by omega, ?_⟩
      rw [tk_succ hk, show natV ((keys8 S).take i ++ [k]) = natV ((keys8 S).take i) ++ [V.int (k : Int)] from List.map_append]
      exact h4
    · rintro D H3 ⟨hi8, h3⟩
      rw [hxl, List.take_length] at h3
      walk_at "gs"
      rename_i k0 H4 hk0 h4
      have hnl := natV_len (keys8 S)
      clear hh h3
      refine w_ite (fun hpos => ?_) (fun hpos => ?_)
      · walk_at "gs"
        rename_i k1 H5 hk1 h5
        clear h4
        refine w_ite (fun hp1 => ?_) (fun hp1 => ?_)
        · walk_at "gs"
          refine g_pick h5 (by walk_at "spl") (by walk_at "mem") (by omega) (by omega) fun v H6 hv h6 => ?_
          obtain ⟨k, hk, rfl⟩ := List.mem_map.mp hv
          clear h5
          have hb8 : k < 8 := (keysS_mem.mp hk).1
          walk_at "gs"
          rename_i way H6 hw h6
          refine w_ite (fun hlt => ?_) (fun hlt => ?_)
          · walk_at "gs"
            rename_i t H7 h7
            exact q t (.pick) _ trivial (Hd.sb (A := tupC t [V.str (Str.ofString "pick")] :: stoC st c :: scrC c :: lstC a xs :: (Y ++ R)) h7 (by walk_at "sbx"))
          · walk_at "gs"
            refine w_nin (h6.sqL (by walk_at "mem")) rfl (natV_flat _) inV_nat ?_
            walk_at "gs"
            refine w_iteN (fun hin => ?_) (fun hin => ?_)
            · have hno : domS S k = false := by
                cases e : domS S k with
                | false => rfl
                | true => exact absurd (keysS_mem.mpr ⟨hb8, e⟩) hin
              walk_at "gs"
              rename_i pr H7 hp0 hp7 h7 aw H8 haw h8 t H9 h9
              exact q t (.enter k pr (decide ((aw : Int) = 0))) _ ⟨hb8, by omega, hno⟩ (Hd.sb (A := tupC t [V.str (Str.ofString "enter"), V.int (k : Int), V.int (pr : Int), V.bl (decide ((aw : Int) = 0))] :: stoC st c :: scrC c :: lstC a xs :: (Y ++ R)) h9 (by walk_at "sbx"))
            · have hyes : domS S k = true := keys_some _ hin
              walk_at "gs"
              refine w_ite (fun e1 => ?_) (fun e1 => ?_)
              · walk_at "gs"
                rename_i t H7 h7
                exact q t (.leave k) _ hyes (Hd.sb (A := tupC t [V.str (Str.ofString "leave"), V.int (k : Int)] :: stoC st c :: scrC c :: lstC a xs :: (Y ++ R)) h7 (by walk_at "sbx"))
              · walk_at "gs"
                refine w_ite (fun e2 => ?_) (fun e2 => ?_)
                · walk_at "gs"
                  rename_i pr H7 hp0 hp7 h7 t H8 h8
                  exact q t (.lend k pr) _ ⟨by omega, hyes⟩ (Hd.sb (A := tupC t [V.str (Str.ofString "lend"), V.int (k : Int), V.int (pr : Int)] :: stoC st c :: scrC c :: lstC a xs :: (Y ++ R)) h8 (by walk_at "sbx"))
                · walk_at "gs"
                  refine w_ite (fun e3 => ?_) (fun e3 => ?_)
                  · walk_at "gs"
                    rename_i t H7 h7
                    exact q t (.sleep k) _ hyes (Hd.sb (A := tupC t [V.str (Str.ofString "sleep"), V.int (k : Int)] :: stoC st c :: scrC c :: lstC a xs :: (Y ++ R)) h7 (by walk_at "sbx"))
                  · walk_at "gs"
                    rename_i t H7 h7
                    exact q t (.wake k) _ hyes (Hd.sb (A := tupC t [V.str (Str.ofString "wake"), V.int (k : Int)] :: stoC st c :: scrC c :: lstC a xs :: (Y ++ R)) h7 (by walk_at "sbx"))
        · walk_at "gs"
          have hb8 : k0 < 8 := (by omega)
          walk_at "gs"
          rename_i way H6 hw h6
          refine w_ite (fun hlt => ?_) (fun hlt => ?_)
          · walk_at "gs"
            rename_i t H7 h7
            exact q t (.pick) _ trivial (Hd.sb (A := tupC t [V.str (Str.ofString "pick")] :: stoC st c :: scrC c :: lstC a xs :: (Y ++ R)) h7 (by walk_at "sbx"))
          · walk_at "gs"
            refine w_nin (h6.sqL (by walk_at "mem")) rfl (natV_flat _) inV_nat ?_
            walk_at "gs"
            refine w_iteN (fun hin => ?_) (fun hin => ?_)
            · have hno : domS S k0 = false := by
                cases e : domS S k0 with
                | false => rfl
                | true => exact absurd (keysS_mem.mpr ⟨hb8, e⟩) hin
              walk_at "gs"
              rename_i pr H7 hp0 hp7 h7 aw H8 haw h8 t H9 h9
              exact q t (.enter k0 pr (decide ((aw : Int) = 0))) _ ⟨hb8, by omega, hno⟩ (Hd.sb (A := tupC t [V.str (Str.ofString "enter"), V.int (k0 : Int), V.int (pr : Int), V.bl (decide ((aw : Int) = 0))] :: stoC st c :: scrC c :: lstC a xs :: (Y ++ R)) h9 (by walk_at "sbx"))
            · have hyes : domS S k0 = true := keys_some _ hin
              walk_at "gs"
              refine w_ite (fun e1 => ?_) (fun e1 => ?_)
              · walk_at "gs"
                rename_i t H7 h7
                exact q t (.leave k0) _ hyes (Hd.sb (A := tupC t [V.str (Str.ofString "leave"), V.int (k0 : Int)] :: stoC st c :: scrC c :: lstC a xs :: (Y ++ R)) h7 (by walk_at "sbx"))
              · walk_at "gs"
                refine w_ite (fun e2 => ?_) (fun e2 => ?_)
                · walk_at "gs"
                  rename_i pr H7 hp0 hp7 h7 t H8 h8
                  exact q t (.lend k0 pr) _ ⟨by omega, hyes⟩ (Hd.sb (A := tupC t [V.str (Str.ofString "lend"), V.int (k0 : Int), V.int (pr : Int)] :: stoC st c :: scrC c :: lstC a xs :: (Y ++ R)) h8 (by walk_at "sbx"))
                · walk_at "gs"
                  refine w_ite (fun e3 => ?_) (fun e3 => ?_)
                  · walk_at "gs"
                    rename_i t H7 h7
                    exact q t (.sleep k0) _ hyes (Hd.sb (A := tupC t [V.str (Str.ofString "sleep"), V.int (k0 : Int)] :: stoC st c :: scrC c :: lstC a xs :: (Y ++ R)) h7 (by walk_at "sbx"))
                  · walk_at "gs"
                    rename_i t H7 h7
                    exact q t (.wake k0) _ hyes (Hd.sb (A := tupC t [V.str (Str.ofString "wake"), V.int (k0 : Int)] :: stoC st c :: scrC c :: lstC a xs :: (Y ++ R)) h7 (by walk_at "sbx"))
      · walk_at "gs"
        have hb8 : k0 < 8 := (by omega)
        walk_at "gs"
        rename_i way H6 hw h6
        refine w_ite (fun hlt => ?_) (fun hlt => ?_)
        · walk_at "gs"
          rename_i t H7 h7
          exact q t (.pick) _ trivial (Hd.sb (A := tupC t [V.str (Str.ofString "pick")] :: stoC st c :: scrC c :: lstC a xs :: (Y ++ R)) h7 (by walk_at "sbx"))
        · walk_at "gs"
          refine w_nin (h6.sqL (by walk_at "mem")) rfl (natV_flat _) inV_nat ?_
          walk_at "gs"
          refine w_iteN (fun hin => ?_) (fun hin => ?_)
          · have hno : domS S k0 = false := by
              cases e : domS S k0 with
              | false => rfl
              | true => exact absurd (keysS_mem.mpr ⟨hb8, e⟩) hin
            walk_at "gs"
            rename_i pr H7 hp0 hp7 h7 aw H8 haw h8 t H9 h9
            exact q t (.enter k0 pr (decide ((aw : Int) = 0))) _ ⟨hb8, by omega, hno⟩ (Hd.sb (A := tupC t [V.str (Str.ofString "enter"), V.int (k0 : Int), V.int (pr : Int), V.bl (decide ((aw : Int) = 0))] :: stoC st c :: scrC c :: lstC a xs :: (Y ++ R)) h9 (by walk_at "sbx"))
          · have hyes : domS S k0 = true := keys_some _ hin
            walk_at "gs"
            refine w_ite (fun e1 => ?_) (fun e1 => ?_)
            · walk_at "gs"
              rename_i t H7 h7
              exact q t (.leave k0) _ hyes (Hd.sb (A := tupC t [V.str (Str.ofString "leave"), V.int (k0 : Int)] :: stoC st c :: scrC c :: lstC a xs :: (Y ++ R)) h7 (by walk_at "sbx"))
            · walk_at "gs"
              refine w_ite (fun e2 => ?_) (fun e2 => ?_)
              · walk_at "gs"
                rename_i pr H7 hp0 hp7 h7 t H8 h8
                exact q t (.lend k0 pr) _ ⟨by omega, hyes⟩ (Hd.sb (A := tupC t [V.str (Str.ofString "lend"), V.int (k0 : Int), V.int (pr : Int)] :: stoC st c :: scrC c :: lstC a xs :: (Y ++ R)) h8 (by walk_at "sbx"))
              · walk_at "gs"
                refine w_ite (fun e3 => ?_) (fun e3 => ?_)
                · walk_at "gs"
                  rename_i t H7 h7
                  exact q t (.sleep k0) _ hyes (Hd.sb (A := tupC t [V.str (Str.ofString "sleep"), V.int (k0 : Int)] :: stoC st c :: scrC c :: lstC a xs :: (Y ++ R)) h7 (by walk_at "sbx"))
                · walk_at "gs"
                  rename_i t H7 h7
                  exact q t (.wake k0) _ hyes (Hd.sb (A := tupC t [V.str (Str.ofString "wake"), V.int (k0 : Int)] :: stoC st c :: scrC c :: lstC a xs :: (Y ++ R)) h7 (by walk_at "sbx"))
end
end K23
set_option Elab.async false
set_option linter.all false
set_option maxRecDepth 100000
set_option maxHeartbeats 4000000
namespace K23
open PySem PySem.Spec PyProof.Rows L2 Wk
local macro_rules | `(tactic| walk_at "u1") => `(tactic| fail "no more")
local macro_rules | `(tactic| walk_at "pos") => `(tactic| first | assumption | omega | decide | (simp only [Int.ofNat_eq_natCast] at *; omega))
local macro_rules | `(tactic| walk_at "sz") => `(tactic| first
  | (simp only [List.length_cons, List.length_nil]; decide)
  | exact Evl.sz_of (by omega)
  | exact Evl.sz_lt (by omega)
  | exact Evl.sz_of (by simp only [List.length_map, List.length_append, List.length_cons, List.length_nil, List.length_replicate]; omega)
  | exact Evl.sz_lt (by simp only [List.length_map, List.length_append, List.length_cons, List.length_nil, List.length_replicate]; omega))
local macro_rules | `(tactic| walk_at "cond") => `(tactic| first
  | exact Or.inr ⟨by decide, by decide⟩
  | (show (0 : Int) < _; first | decide | assumption | omega)
  | exact Or.inl ⟨by omega, by omega⟩
  | exact Or.inr ⟨by omega, by omega⟩
  | exact ⟨by decide, by decide, by decide⟩
  | exact log2_lt (by omega) (by omega)
  | exact ⟨by omega, by omega⟩)
local macro_rules | `(tactic| walk_at "ty") => `(tactic| first
  | exact ty_int | exact ty_bl | exact ty_str | exact ty_non
  | exact ty_L (by assumption) | exact ty_T (by assumption)
  | exact ty_L (SqL.of (by assumption)) | exact ty_T (SqT.of (by assumption)))
local macro_rules | `(tactic| walk_at "kit") => `(tactic| first
  | exact k_ii | exact k_ib | exact k_is | exact k_il | exact k_it
  | exact k_bb | exact k_bi | exact k_bs | exact k_bl | exact k_bt
  | exact k_ss | exact k_sb | exact k_si | exact k_sl | exact k_st
  | exact k_ll | exact k_lb | exact k_li | exact k_ls | exact k_lt
  | exact k_tt | exact k_tb | exact k_ti | exact k_ts | exact k_tl
  | exact k_nn | exact k_ni | exact k_ns | exact k_nl | exact k_nt)
local macro_rules | `(tactic| walk_at "s1") => `(tactic| first
  | with_reducible refine w_seq ?_
  | with_reducible refine w_set ?_
  | with_reducible refine w_op ?_
  | ((with_reducible refine' w_var ?h1 ?_); (case h1 => rfl))
  | with_reducible refine w_c ?_
  | with_reducible refine w_cb ?_
  | with_reducible refine w_cons ?_
  | with_reducible refine w_nil ?_
  | with_reducible refine w_I0 ?_
  | ((with_reducible refine' w_I ?c1 ?_); case c1 => walk_at "cond")
  | with_reducible refine w_ret ?_
  | with_reducible refine w_next ?_
  | with_reducible refine w_ifS ?_
  | with_reducible refine w_test ?_
  | with_reducible refine w_tB ?_
  | with_reducible refine w_k ?_
  | with_reducible refine w_eqI ?_
  | with_reducible refine w_neI ?_
  | with_reducible refine w_eqS ?_
  | with_reducible refine w_neS ?_
  | with_reducible refine w_and ?_
  | with_reducible refine w_or ?_
  | with_reducible refine w_not ?_
  | with_reducible refine w_andV ?_
  | with_reducible refine w_orV ?_
  | with_reducible refine w_notV ?_
  | with_reducible refine w_ifE ?_
  | with_reducible refine w_true ?_
  | with_reducible refine w_false ?_
  | with_reducible refine w_ntrue ?_
  | with_reducible refine w_nfalse ?_
  | with_reducible refine w_call ?_
  | with_reducible refine c_int ?_
  | with_reducible refine c_abs ?_
  | with_reducible refine c_max ?_
  | with_reducible refine c_min ?_
  | with_reducible refine w_drop ?_
  | with_reducible refine w_sfld ?_
  | with_reducible refine w_meth ?_
  | with_reducible refine w_make ?_
  | with_reducible refine w_prop ?_
  | with_reducible refine w_callK ?_
  | with_reducible refine w_callN ?_
  | with_reducible refine w_star ?_
  | with_reducible refine w_gcons ?_
  | with_reducible refine w_gname ?_
  | with_reducible refine w_gnil ?_
  | with_reducible refine w_retN ?_
  | with_reducible refine w_tup ?_
  | with_reducible refine w_lst ?_
  | with_reducible refine w_fld ?_
  | with_reducible refine w_bm ?_
  | with_reducible refine w_bm0 ?_
  | with_reducible refine w_forL ?_
  | with_reducible refine w_forT ?_
  | with_reducible refine w_forS ?_
  | with_reducible refine w_forR ?_
  | with_reducible refine w_lcR ?_
  | with_reducible refine w_lcL ?_
  | with_reducible refine w_lcT ?_
  | with_reducible refine w_isN ?_
  | with_reducible refine w_notN ?_
  | with_reducible refine w_asg ?_
  | with_reducible refine w_gsub ?_
  | ((with_reducible refine' w_aug ?h1 ?_); (case h1 => rfl))
  | with_reducible refine w_augS ?_
  | with_reducible refine w_ipI ?_
  | with_reducible refine w_un ?_
  | with_reducible refine w_U ?_
  | ((with_reducible refine' w_iteF ?f1 ?_); case f1 => (first | (intro h; cases h; done) | decide))
  | ((with_reducible refine' w_iteT ?f1 ?_); case f1 => rfl)
  | ((with_reducible refine' w_iteNF ?f1 ?_); case f1 => rfl)
  | ((with_reducible refine' w_iteNT ?f1 ?_); case f1 => (first | (intro h; cases h; done) | decide))
  | ((with_reducible refine' c_isi ?t1 ?k1 ?_); (case t1 => walk_at "ty"); (case k1 => walk_at "kit"))
  | ((with_reducible refine' w_eq ?e1 ?_); case e1 => rfl)
  | ((with_reducible refine' w_ne ?e1 ?_); case e1 => rfl)
  | walk_at "u1")
local macro_rules | `(tactic| walk_at "s") => `(tactic| repeat walk_at "s1")
local macro_rules | `(tactic| walk_at "mem") => `(tactic| first | with_reducible exact List.mem_cons_self .. | ((with_reducible refine' List.mem_cons_of_mem _ ?q); (case q => walk_at "mem")) | assumption | ((with_reducible refine' List.mem_append_right _ ?q); (case q => walk_at "mem")) | (exact List.mem_append_left _ (by assumption)))
local macro_rules | `(tactic| walk_at "pk") => `(tactic| first | with_reducible exact Pk.here | ((with_reducible refine' Pk.there ?q); (case q => walk_at "pk")) | ((with_reducible refine' Pk.app ?q); (case q => walk_at "pk")))
local macro_rules | `(tactic| walk_at "pkb") => `(tactic| first | with_reducible exact PkB.here | ((with_reducible refine' PkB.there ?q); (case q => walk_at "pkb")) | ((with_reducible refine' PkB.app ?q); (case q => walk_at "pkb")))
local macro_rules | `(tactic| walk_at "spl") => `(tactic| first | with_reducible exact Spl.nil | ((with_reducible refine' Spl.cons ?h ?t); (case h => walk_at "pk"); (case t => walk_at "spl")) | ((with_reducible refine' Spl.blk ?h ?t); (case h => walk_at "pkb"); (case t => walk_at "spl")))
local macro_rules | `(tactic| walk_at "sbx") => `(tactic| first | with_reducible exact Sb.refl | with_reducible exact Sb.nil | with_reducible exact Sb.left | ((with_reducible refine' Sb.cons ?h ?t); (case h => walk_at "pk"); (case t => walk_at "sbx")) | ((with_reducible refine' Sb.blk ?h ?t); (case h => walk_at "pkb"); (case t => walk_at "sbx")) | ((with_reducible refine' Sb.drop ?q); (case q => walk_at "sbx")) | ((with_reducible refine' Sb.right ?q); (case q => walk_at "sbx")))
local macro_rules | `(tactic| walk_at "hd") => `(tactic| first | assumption | exact Hd.sb (by assumption) (by walk_at "sbx"))
local macro_rules | `(tactic| walk_at "sq") => `(tactic| first
  | assumption
  | exact Hd.sqL (by assumption) (by walk_at "mem")
  | exact Hd.sqT (by assumption) (by walk_at "mem")
  | exact Hd.sqF (by assumption) (by walk_at "mem")
  | (refine .inl ?_; walk_at "sq")
  | (refine .inr ?_; walk_at "sq"))
local macro_rules | `(tactic| walk_at "at") => `(tactic| first | rfl | assumption | exact atI_nat (by assumption))
local macro_rules | `(tactic| walk_at "dn1") => `(tactic| first
  | exact Dn.int | exact Dn.str | exact Dn.non | exact Dn.bl | assumption
  | ((refine' Dn.tp ?a1 ?m1 ?l1 ?p1); (case a1 => assumption); (case m1 => walk_at "mem"); (case l1 => (simp only [List.length_cons, List.length_nil]; omega)); (case p1 => walk_at "dns"))
  | ((refine' Dn.lt ?a1 ?m1 ?l1 ?p1); (case a1 => assumption); (case m1 => walk_at "mem"); (case l1 => (simp only [List.length_cons, List.length_nil]; omega)); (case p1 => walk_at "dns")))
local macro_rules | `(tactic| walk_at "dns") => `(tactic| first | exact Paired.nil | exact Dn.ints | ((refine' Paired.cons ?a1 ?b1); (case a1 => walk_at "dn1"); (case b1 => walk_at "dns")))
local macro_rules | `(tactic| walk_at "g1") => `(tactic| first
  | ((with_reducible refine' g_ixI ?h1 ?h2 ?h3 ?_); (case h1 => assumption); (case h2 => walk_at "mem"); (case h3 => omega); intro z hz)
  | ((with_reducible refine' g_ixIT ?h1 ?h2 ?h3 ?_); (case h1 => assumption); (case h2 => walk_at "mem"); (case h3 => omega); intro z hz)
  | ((with_reducible refine' g_setI ?h1 ?h2 ?h3 ?_); (case h1 => assumption); (case h2 => walk_at "pk"); (case h3 => omega); intro H2 hh2)
  | ((with_reducible refine' w_ixL ?h1 ?h2 ?_); (case h1 => walk_at "sq"); (case h2 => walk_at "at"))
  | ((with_reducible refine' w_ixT ?h1 ?h2 ?_); (case h1 => walk_at "sq"); (case h2 => walk_at "at"))
  | ((with_reducible refine' w_ixAny ?h1 ?h2 ?_); (case h1 => walk_at "sq"); (case h2 => walk_at "at"))
  | ((with_reducible refine' c_lenA ?h1 ?_); (case h1 => walk_at "sq"))
  | ((with_reducible refine' c_isi ?t1 ?k1 ?_); (case t1 => first | exact ty_T (by walk_at "sq") | exact ty_L (by walk_at "sq")); (case k1 => walk_at "kit"))
  | ((with_reducible refine' g_lst ?h1 ?h2 ?_); (case h1 => assumption); (case h2 => walk_at "sz"); intro p H2 hh2)
  | ((with_reducible refine' g_tup ?h1 ?h2 ?_); (case h1 => assumption); (case h2 => walk_at "sz"); intro p H2 hh2)
  | ((with_reducible refine' g_dict ?h1 ?_); (case h1 => assumption); intro p H2 hh2)
  | ((with_reducible refine' g_listL ?h1 ?h2 ?_); (case h1 => assumption); (case h2 => walk_at "sq"); intro p H2 hh2)
  | ((with_reducible refine' g_listT ?h1 ?h2 ?_); (case h1 => assumption); (case h2 => walk_at "sq"); intro p H2 hh2)
  | ((with_reducible refine' g_tupL ?h1 ?h2 ?_); (case h1 => assumption); (case h2 => walk_at "sq"); intro p H2 hh2)
  | ((with_reducible refine' g_set ?h1 ?h2 ?h3 ?_); (case h1 => assumption); (case h2 => walk_at "pk"); (case h3 => first | rfl | assumption | exact Evl.ixN_nat (by first | omega | (simp only [List.length_cons, List.length_nil]; omega))); intro H2 hh2)
  | ((with_reducible refine' g_kbm ?h1 ?h2 ?_); (case h1 => assumption); (case h2 => walk_at "mem"))
  | ((with_reducible refine' g_kbm0 ?h1 ?h2 ?_); (case h1 => assumption); (case h2 => walk_at "mem"))
  | ((with_reducible refine' g_app ?h1 ?h2 ?h3 ?_); (case h1 => assumption); (case h2 => walk_at "pk"); (case h3 => walk_at "sz"); intro H2 hh2)
  | ((with_reducible refine' g_kapp ?h1 ?h2 ?h3 ?_); (case h1 => assumption); (case h2 => walk_at "pk"); (case h3 => walk_at "sz"); intro H2 hh2)
  | ((with_reducible refine' g_fld ?h1 ?h2 ?h3 ?h4 ?h5 ?_); (case h1 => assumption); (case h2 => walk_at "mem"); (case h3 => assumption); (case h4 => assumption); (case h5 => rfl))
  | ((with_reducible refine' g_sfld ?h1 ?h2 ?h3 ?h4 ?h5 ?_); (case h1 => assumption); (case h2 => walk_at "pk"); (case h3 => assumption); (case h4 => assumption); (case h5 => decide); intro H2 hh2)
  | ((with_reducible refine' g_meth ?h1 ?h2 ?h3 ?_); (case h1 => assumption); (case h2 => walk_at "mem"); (case h3 => rfl))
  | ((with_reducible refine' g_prop ?h1 ?h2 ?_); (case h1 => assumption); (case h2 => walk_at "mem"))
  | ((with_reducible refine' g_make ?h1 ?_); (case h1 => assumption); intro x H2 hh2)
  | ((with_reducible refine' g_cat ?h1 ?h2 ?h3 ?h4 ?_); (case h1 => assumption); (case h2 => walk_at "mem"); (case h3 => walk_at "mem"); (case h4 => walk_at "sz"); intro p H2 hh2)
  | ((with_reducible refine' g_inT ?h1 ?h2 ?h3 ?h4 ?h5 ?_); (case h1 => assumption); (case h2 => walk_at "mem"); (case h3 => rfl); (case h4 => rfl); (case h5 => rfl)))
local macro_rules | `(tactic| walk_at "gs") => `(tactic| repeat first | walk_at "s1" | walk_at "g1")
local macro_rules | `(tactic| walk_at "ite") => `(tactic| first
  | ((with_reducible refine' w_iteT ?h1 ?_); (case h1 => omega))
  | ((with_reducible refine' w_iteF ?h1 ?_); (case h1 => omega))
  | (with_reducible refine w_ite ?_ ?_ <;> intro hq)
  | ((with_reducible refine' w_iteNT ?h1 ?_); (case h1 => omega))
  | ((with_reducible refine' w_iteNF ?h1 ?_); (case h1 => omega))
  | (with_reducible refine w_iteN ?_ ?_ <;> intro hq))
local macro_rules | `(tactic| walk_at "go") => `(tactic| repeat' first | walk_at "s1" | walk_at "g1" | walk_at "ite")
local macro_rules | `(tactic| walk_at "g1") => `(tactic| first
  | ((with_reducible refine' g_take1 ?h1 ?h2 ?h3 ?h4 ?_); (case h1 => assumption); (case h2 => walk_at "spl"); (case h3 => omega); (case h4 => omega); intro k H2 hk1 hh2)
  | ((with_reducible refine' g_take ?h1 ?h2 ?h4 ?_); (case h1 => assumption); (case h2 => walk_at "spl"); (case h4 => omega); intro k H2 hk1 hh2)
  | ((with_reducible refine' g_betweenN ?h1 ?h2 ?h5 ?h3 ?h4 ?_); (case h1 => assumption); (case h2 => walk_at "spl"); (case h5 => omega); (case h3 => omega); (case h4 => omega); intro k H2 hk1 hk2 hh2)
  | ((with_reducible refine' g_between ?h1 ?h2 ?h3 ?h4 ?_); (case h1 => assumption); (case h2 => walk_at "spl"); (case h3 => omega); (case h4 => omega); intro k H2 hk1 hk2 hh2)
  | ((with_reducible refine' g_size ?h1 ?h2 ?h3 ?h4 ?_); (case h1 => assumption); (case h2 => walk_at "spl"); (case h3 => omega); (case h4 => omega); intro k H2 hk1 hh2)
  | ((with_reducible refine' g_word ?h1 ?h2 ?_); (case h1 => assumption); (case h2 => walk_at "spl"); intro k H2 hk1 hh2))
local macro_rules | `(tactic| walk_at "g1") => `(tactic| first | with_reducible refine w_sl ?_ | with_reducible refine w_part ?_ | with_reducible refine w_noPart ?_ | with_reducible refine w_exI ?_)
local macro_rules | `(tactic| walk_at "g1") => `(tactic| first | with_reducible refine w_din ?_ | with_reducible refine w_dnotin ?_ | with_reducible refine w_dget ?_ | with_reducible refine w_dput ?_ | with_reducible refine w_ddel ?_ | with_reducible refine w_dpop ?_)
section
variable {P : Program} {w : World} {K : PySem.W.Frag} {mg : Str → Option Value} {base : Heap} {aREG aOPS : Addr}
theorem paired_zip {α β : Type} {F : α → β → Prop} : ∀ {xs : List α} {ys : List β}, Paired F xs ys → ∀ b ∈ xs.zip ys, F b.1 b.2
  | [], [], .nil, b, h => by cases h
  | x :: xs, y :: ys, .cons r t, b, h => by
    rw [List.zip_cons_cons] at h
    rcases List.mem_cons.mp h with rfl | h
    · exact r
    · exact paired_zip t b h
theorem paired_all {α β : Type} {F : α → β → Prop} : ∀ {bs : List (α × β)}, (∀ b ∈ bs, F b.1 b.2) → Paired F (bs.map (·.1)) (bs.map (·.2))
  | [], _ => .nil
  | b :: bs, h => .cons (h b (List.mem_cons_self ..)) (paired_all fun c hc => h c (List.mem_cons_of_mem _ hc))
def keyD (d : PyData) : Nat := match d with
  | .tuple (.int i :: _) => i.toNat
  | _ => 0
theorem mbP_alike {k k' : Nat} {m m' : Mb} : PySem.W.alike (mbP k m) (mbP k' m') = true := by
  unfold mbP
  simp [PySem.W.alike, PySem.W.alikeAll]
theorem mbP_depth {k : Nat} {m : Mb} : (mbP k m).depth ≤ 60 := by
  unfold mbP
  simp [PyData.depth, PyData.depthAll]
theorem rowsP_key {S : AgS} {ks : List Nat} (hk : ∀ k ∈ ks, (S k).isSome = true) : (rowsP S ks).map keyD = ks := by
  unfold rowsP
  rw [List.map_map]
  refine (List.map_congr_left fun k h => ?_).trans (List.map_id ks)
  obtain ⟨m, hm⟩ := Option.isSome_iff_exists.mp (hk k h)
  show keyD (((S k).map (mbP k)).getD .none) = k
  rw [hm]
  show (k : Int).toNat = k
  rfl
theorem rowsP_mem {S : AgS} {ks : List Nat} {d : PyData} (hk : ∀ k ∈ ks, (S k).isSome = true) (h : d ∈ rowsP S ks) : ∃ k m, k ∈ ks ∧ S k = some m ∧ d = mbP k m := by
  obtain ⟨k, h1, e⟩ := List.mem_map.mp h
  obtain ⟨m, hm⟩ := Option.isSome_iff_exists.mp (hk k h1)
  refine ⟨k, m, h1, hm, ?_⟩
  rw [← e, hm]
  rfl
theorem row_key {S : AgS} {k : Nat} {m : Mb} (h : S k = some m) : ((S (keyD (mbP k m))).map (mbP (keyD (mbP k m)))).getD .none = mbP k m := by
  show ((S ((k : Int).toNat)).map (mbP ((k : Int).toNat))).getD .none = mbP k m
  rw [Int.toNat_natCast, h]
  rfl
/-- sorted(rows) -/
theorem g_sortRows {S : AgS} {kk : List Nat} {ys : List V} {Yb L : List Cell} {D : Addr} {H : Hp} {Q : VK} (hY : RowsIn K S kk ys Yb) (hks : ∀ k ∈ kk, (S k).isSome = true) (nd : kk.Nodup) (hm : ∀ k, k ∈ kk ↔ k ∈ keys8 S) (hkl : kk.length ≤ 100) (hh : Hd H L) (hD : lstC D ys ∈ L) (sub : ∀ H', Hd H' L → Hd H' Yb)
    (q : ∀ p H', Hd H' L → Dn K [] H' 2 (.ref p) (.list (rowsP S (keys8 S))) → Q (.ref p) H') : rSortD K [.ref D] H Q := by
  have hp := hY H (sub H hh)
  have hl : ys.length = (rowsP S kk).length := hp.length
  have e1 : (ys.zip (rowsP S kk)).map (·.1) = ys := List.map_fst_zip (by omega)
  have e2 : (ys.zip (rowsP S kk)).map (·.2) = rowsP S kk := List.map_snd_zip (by omega)
  have hrow : ∀ b ∈ ys.zip (rowsP S kk), ∃ k m, k ∈ kk ∧ S k = some m ∧ b.2 = mbP k m := fun b hb => rowsP_mem hks (by rw [← e2]; exact List.mem_map_of_mem hb)
  refine ⟨D, ys.zip (rowsP S kk), rfl, by rw [e1]; exact hh.sqL hD, fun b hb => ?_, ?_, ?_, fun b hb => ?_, fun ys' p hperm hsort hn => ?_⟩
  · obtain ⟨k, m, _, hm', e⟩ := hrow b hb
    have dn := paired_zip hp b hb
    rw [e] at dn ⊢
    obtain ⟨t, et, hs⟩ := dn_row dn
    rw [et]
    exact .tup hs (.cons (.int _) (.cons (.int _) (.cons (.int _) (.cons (.bl _) (.cons (.int _) .nil)))))
  · rw [e2]
    intro d hd d' hd'
    obtain ⟨k, m, _, _, rfl⟩ := rowsP_mem hks hd
    obtain ⟨k', m', _, _, rfl⟩ := rowsP_mem hks hd'
    exact mbP_alike
  · rw [e2]
    refine .inl fun d hd => ?_
    obtain ⟨k, m, _, _, rfl⟩ := rowsP_mem hks hd
    exact ⟨_, _, rfl⟩
  · obtain ⟨k, m, _, _, e⟩ := hrow b hb
    rw [e]
    exact mbP_depth
  · have h3 := hh.newL (New.of (o := HO.lst (ys'.map (·.1))) hn)
    have h4 : Hd (upd H p (HO.lst (ys'.map (·.1)))) L := h3.tail
    have hp4 := hY _ (sub _ h4)
    have hrow' : ∀ b ∈ ys', ∃ k m, k ∈ kk ∧ S k = some m ∧ b.2 = mbP k m := fun b hb => hrow b (hperm.mem_iff.mp hb)
    have ek : ys'.map (fun b => keyD b.2) = keys8 S := by
      have p1 : (ys'.map (fun b => keyD b.2)).Perm kk := by
        have := hperm.map (fun b : V × PyData => keyD b.2)
        rw [show (ys.zip (rowsP S kk)).map (fun b => keyD b.2) = kk from (by rw [List.map_map]; rfl : (ys.zip (rowsP S kk)).map (fun b => keyD b.2) = ((ys.zip (rowsP S kk)).map (·.2)).map keyD).trans (by rw [e2, rowsP_key hks])] at this
        exact this
      refine asc_one ?_ keysS_asc fun x => by rw [p1.mem_iff, hm]
      have hle : (ys'.map (fun b => keyD b.2)).Pairwise (· ≤ ·) := by
        rw [List.pairwise_map]
        refine (List.Pairwise.imp_of_mem (fun {b c} hb hc h => ?_) hsort)
        obtain ⟨k, m, _, _, eb⟩ := hrow' b hb
        obtain ⟨k', m', _, _, ec⟩ := hrow' c hc
        have := le_head eb ec h
        rw [eb, ec]
        show (k : Int).toNat ≤ (k' : Int).toNat
        omega
      exact (hle.and (p1.nodup_iff.mpr nd)).imp fun {a b} ⟨x, y⟩ => by omega
    have ed : ys'.map (·.2) = rowsP S (keys8 S) := by
      unfold rowsP
      rw [← ek, List.map_map]
      refine List.map_congr_left fun b hb => ?_
      obtain ⟨k, m, _, hm', e⟩ := hrow' b hb
      show b.2 = ((S (keyD b.2)).map (mbP (keyD b.2))).getD .none
      rw [e, row_key hm']
    refine q p _ h4 (.inr (.inl ⟨p, ys'.map (·.1), _, rfl, rfl, List.not_mem_nil, h3.sqL (List.mem_cons_self ..), ?_, ?_⟩))
    · rw [List.length_map, hperm.length_eq, List.length_zip]
      unfold rowsP
      rw [List.length_map]
      omega
    · rw [← ed]
      exact paired_all fun b hb => paired_zip hp4 b (hperm.mem_iff.mp hb)
end
end K23
set_option Elab.async false
set_option linter.all false
set_option maxRecDepth 100000
set_option maxHeartbeats 4000000
namespace K23
open PySem PySem.Spec PyProof.Rows L2 Wk
local macro_rules | `(tactic| walk_at "u1") => `(tactic| fail "no more")
local macro_rules | `(tactic| walk_at "pos") => `(tactic| first | assumption | omega | decide | (simp only [Int.ofNat_eq_natCast] at *; omega))
local macro_rules | `(tactic| walk_at "sz") => `(tactic| first
  | (simp only [List.length_cons, List.length_nil]; decide)
  | exact Evl.sz_of (by omega)
  | exact Evl.sz_lt (by omega)
  | exact Evl.sz_of (by simp only [List.length_map, List.length_append, List.length_cons, List.length_nil, List.length_replicate]; omega)
  | exact Evl.sz_lt (by simp only [List.length_map, List.length_append, List.length_cons, List.length_nil, List.length_replicate]; omega))
local macro_rules | `(tactic| walk_at "cond") => `(tactic| first
  | exact Or.inr ⟨by decide, by decide⟩
  | (show (0 : Int) < _; first | decide | assumption | omega)
  | exact Or.inl ⟨by omega, by omega⟩
  | exact Or.inr ⟨by omega, by omega⟩
  | exact ⟨by decide, by decide, by decide⟩
  | exact log2_lt (by omega) (by omega)
  | exact ⟨by omega, by omega⟩)
local macro_rules | `(tactic| walk_at "ty") => `(tactic| first
  | exact ty_int | exact ty_bl | exact ty_str | exact ty_non
  | exact ty_L (by assumption) | exact ty_T (by assumption)
  | exact ty_L (SqL.of (by assumption)) | exact ty_T (SqT.of (by assumption)))
local macro_rules | `(tactic| walk_at "kit") => `(tactic| first
  | exact k_ii | exact k_ib | exact k_is | exact k_il | exact k_it
  | exact k_bb | exact k_bi | exact k_bs | exact k_bl | exact k_bt
  | exact k_ss | exact k_sb | exact k_si | exact k_sl | exact k_st
  | exact k_ll | exact k_lb | exact k_li | exact k_ls | exact k_lt
  | exact k_tt | exact k_tb | exact k_ti | exact k_ts | exact k_tl
  | exact k_nn | exact k_ni | exact k_ns | exact k_nl | exact k_nt)
local macro_rules | `(tactic| walk_at "s1") => `(tactic| first
  | with_reducible refine w_seq ?_
  | with_reducible refine w_set ?_
  | with_reducible refine w_op ?_
  | ((with_reducible refine' w_var ?h1 ?_); (case h1 => rfl))
  | with_reducible refine w_c ?_
  | with_reducible refine w_cb ?_
  | with_reducible refine w_cons ?_
  | with_reducible refine w_nil ?_
  | with_reducible refine w_I0 ?_
  | ((with_reducible refine' w_I ?c1 ?_); case c1 => walk_at "cond")
  | with_reducible refine w_ret ?_
  | with_reducible refine w_next ?_
  | with_reducible refine w_ifS ?_
  | with_reducible refine w_test ?_
  | with_reducible refine w_tB ?_
  | with_reducible refine w_k ?_
  | with_reducible refine w_eqI ?_
  | with_reducible refine w_neI ?_
  | with_reducible refine w_eqS ?_
  | with_reducible refine w_neS ?_
  | with_reducible refine w_and ?_
  | with_reducible refine w_or ?_
  | with_reducible refine w_not ?_
  | with_reducible refine w_andV ?_
  | with_reducible refine w_orV ?_
  | with_reducible refine w_notV ?_
  | with_reducible refine w_ifE ?_
  | with_reducible refine w_true ?_
  | with_reducible refine w_false ?_
  | with_reducible refine w_ntrue ?_
  | with_reducible refine w_nfalse ?_
  | with_reducible refine w_call ?_
  | with_reducible refine c_int ?_
  | with_reducible refine c_abs ?_
  | with_reducible refine c_max ?_
  | with_reducible refine c_min ?_
  | with_reducible refine w_drop ?_
  | with_reducible refine w_sfld ?_
  | with_reducible refine w_meth ?_
  | with_reducible refine w_make ?_
  | with_reducible refine w_prop ?_
  | with_reducible refine w_callK ?_
  | with_reducible refine w_callN ?_
  | with_reducible refine w_star ?_
  | with_reducible refine w_gcons ?_
  | with_reducible refine w_gname ?_
  | with_reducible refine w_gnil ?_
  | with_reducible refine w_retN ?_
  | with_reducible refine w_tup ?_
  | with_reducible refine w_lst ?_
  | with_reducible refine w_fld ?_
  | with_reducible refine w_bm ?_
  | with_reducible refine w_bm0 ?_
  | with_reducible refine w_forL ?_
  | with_reducible refine w_forT ?_
  | with_reducible refine w_forS ?_
  | with_reducible refine w_forR ?_
  | with_reducible refine w_lcR ?_
  | with_reducible refine w_lcL ?_
  | with_reducible refine w_lcT ?_
  | with_reducible refine w_isN ?_
  | with_reducible refine w_notN ?_
  | with_reducible refine w_asg ?_
  | with_reducible refine w_gsub ?_
  | ((with_reducible refine' w_aug ?h1 ?_); (case h1 => rfl))
  | with_reducible refine w_augS ?_
  | with_reducible refine w_ipI ?_
  | with_reducible refine w_un ?_
  | with_reducible refine w_U ?_
  | ((with_reducible refine' w_iteF ?f1 ?_); case f1 => (first | (intro h; cases h; done) | decide))
  | ((with_reducible refine' w_iteT ?f1 ?_); case f1 => rfl)
  | ((with_reducible refine' w_iteNF ?f1 ?_); case f1 => rfl)
  | ((with_reducible refine' w_iteNT ?f1 ?_); case f1 => (first | (intro h; cases h; done) | decide))
  | ((with_reducible refine' c_isi ?t1 ?k1 ?_); (case t1 => walk_at "ty"); (case k1 => walk_at "kit"))
  | ((with_reducible refine' w_eq ?e1 ?_); case e1 => rfl)
  | ((with_reducible refine' w_ne ?e1 ?_); case e1 => rfl)
  | walk_at "u1")
local macro_rules | `(tactic| walk_at "s") => `(tactic| repeat walk_at "s1")
local macro_rules | `(tactic| walk_at "mem") => `(tactic| first | with_reducible exact List.mem_cons_self .. | ((with_reducible refine' List.mem_cons_of_mem _ ?q); (case q => walk_at "mem")) | assumption | ((with_reducible refine' List.mem_append_right _ ?q); (case q => walk_at "mem")) | (exact List.mem_append_left _ (by assumption)))
local macro_rules | `(tactic| walk_at "pk") => `(tactic| first | with_reducible exact Pk.here | ((with_reducible refine' Pk.there ?q); (case q => walk_at "pk")) | ((with_reducible refine' Pk.app ?q); (case q => walk_at "pk")))
local macro_rules | `(tactic| walk_at "pkb") => `(tactic| first | with_reducible exact PkB.here | ((with_reducible refine' PkB.there ?q); (case q => walk_at "pkb")) | ((with_reducible refine' PkB.app ?q); (case q => walk_at "pkb")))
local macro_rules | `(tactic| walk_at "spl") => `(tactic| first | with_reducible exact Spl.nil | ((with_reducible refine' Spl.cons ?h ?t); (case h => walk_at "pk"); (case t => walk_at "spl")) | ((with_reducible refine' Spl.blk ?h ?t); (case h => walk_at "pkb"); (case t => walk_at "spl")))
local macro_rules | `(tactic| walk_at "sbx") => `(tactic| first | with_reducible exact Sb.refl | with_reducible exact Sb.nil | with_reducible exact Sb.left | ((with_reducible refine' Sb.cons ?h ?t); (case h => walk_at "pk"); (case t => walk_at "sbx")) | ((with_reducible refine' Sb.blk ?h ?t); (case h => walk_at "pkb"); (case t => walk_at "sbx")) | ((with_reducible refine' Sb.drop ?q); (case q => walk_at "sbx")) | ((with_reducible refine' Sb.right ?q); (case q => walk_at "sbx")))
local macro_rules | `(tactic| walk_at "hd") => `(tactic| first | assumption | exact Hd.sb (by assumption) (by walk_at "sbx"))
local macro_rules | `(tactic| walk_at "sq") => `(tactic| first
  | assumption
  | exact Hd.sqL (by assumption) (by walk_at "mem")
  | exact Hd.sqT (by assumption) (by walk_at "mem")
  | exact Hd.sqF (by assumption) (by walk_at "mem")
  | (refine .inl ?_; walk_at "sq")
  | (refine .inr ?_; walk_at "sq"))
local macro_rules | `(tactic| walk_at "at") => `(tactic| first | rfl | assumption | exact atI_nat (by assumption))
local macro_rules | `(tactic| walk_at "dn1") => `(tactic| first
  | exact Dn.int | exact Dn.str | exact Dn.non | exact Dn.bl | assumption
  | ((refine' Dn.tp ?a1 ?m1 ?l1 ?p1); (case a1 => assumption); (case m1 => walk_at "mem"); (case l1 => (simp only [List.length_cons, List.length_nil]; omega)); (case p1 => walk_at "dns"))
  | ((refine' Dn.lt ?a1 ?m1 ?l1 ?p1); (case a1 => assumption); (case m1 => walk_at "mem"); (case l1 => (simp only [List.length_cons, List.length_nil]; omega)); (case p1 => walk_at "dns")))
local macro_rules | `(tactic| walk_at "dns") => `(tactic| first | exact Paired.nil | exact Dn.ints | ((refine' Paired.cons ?a1 ?b1); (case a1 => walk_at "dn1"); (case b1 => walk_at "dns")))
local macro_rules | `(tactic| walk_at "g1") => `(tactic| first
  | ((with_reducible refine' g_ixI ?h1 ?h2 ?h3 ?_); (case h1 => assumption); (case h2 => walk_at "mem"); (case h3 => omega); intro z hz)
  | ((with_reducible refine' g_ixIT ?h1 ?h2 ?h3 ?_); (case h1 => assumption); (case h2 => walk_at "mem"); (case h3 => omega); intro z hz)
  | ((with_reducible refine' g_setI ?h1 ?h2 ?h3 ?_); (case h1 => assumption); (case h2 => walk_at "pk"); (case h3 => omega); intro H2 hh2)
  | ((with_reducible refine' w_ixL ?h1 ?h2 ?_); (case h1 => walk_at "sq"); (case h2 => walk_at "at"))
  | ((with_reducible refine' w_ixT ?h1 ?h2 ?_); (case h1 => walk_at "sq"); (case h2 => walk_at "at"))
  | ((with_reducible refine' w_ixAny ?h1 ?h2 ?_); (case h1 => walk_at "sq"); (case h2 => walk_at "at"))
  | ((with_reducible refine' c_lenA ?h1 ?_); (case h1 => walk_at "sq"))
  | ((with_reducible refine' c_isi ?t1 ?k1 ?_); (case t1 => first | exact ty_T (by walk_at "sq") | exact ty_L (by walk_at "sq")); (case k1 => walk_at "kit"))
  | ((with_reducible refine' g_lst ?h1 ?h2 ?_); (case h1 => assumption); (case h2 => walk_at "sz"); intro p H2 hh2)
  | ((with_reducible refine' g_tup ?h1 ?h2 ?_); (case h1 => assumption); (case h2 => walk_at "sz"); intro p H2 hh2)
  | ((with_reducible refine' g_dict ?h1 ?_); (case h1 => assumption); intro p H2 hh2)
  | ((with_reducible refine' g_listL ?h1 ?h2 ?_); (case h1 => assumption); (case h2 => walk_at "sq"); intro p H2 hh2)
  | ((with_reducible refine' g_listT ?h1 ?h2 ?_); (case h1 => assumption); (case h2 => walk_at "sq"); intro p H2 hh2)
  | ((with_reducible refine' g_tupL ?h1 ?h2 ?_); (case h1 => assumption); (case h2 => walk_at "sq"); intro p H2 hh2)
  | ((with_reducible refine' g_set ?h1 ?h2 ?h3 ?_); (case h1 => assumption); (case h2 => walk_at "pk"); (case h3 => first | rfl | assumption | exact Evl.ixN_nat (by first | omega | (simp only [List.length_cons, List.length_nil]; omega))); intro H2 hh2)
  | ((with_reducible refine' g_kbm ?h1 ?h2 ?_); (case h1 => assumption); (case h2 => walk_at "mem"))
  | ((with_reducible refine' g_kbm0 ?h1 ?h2 ?_); (case h1 => assumption); (case h2 => walk_at "mem"))
  | ((with_reducible refine' g_app ?h1 ?h2 ?h3 ?_); (case h1 => assumption); (case h2 => walk_at "pk"); (case h3 => walk_at "sz"); intro H2 hh2)
  | ((with_reducible refine' g_kapp ?h1 ?h2 ?h3 ?_); (case h1 => assumption); (case h2 => walk_at "pk"); (case h3 => walk_at "sz"); intro H2 hh2)
  | ((with_reducible refine' g_fld ?h1 ?h2 ?h3 ?h4 ?h5 ?_); (case h1 => assumption); (case h2 => walk_at "mem"); (case h3 => assumption); (case h4 => assumption); (case h5 => rfl))
  | ((with_reducible refine' g_sfld ?h1 ?h2 ?h3 ?h4 ?h5 ?_); (case h1 => assumption); (case h2 => walk_at "pk"); (case h3 => assumption); (case h4 => assumption); (case h5 => decide); intro H2 hh2)
  | ((with_reducible refine' g_meth ?h1 ?h2 ?h3 ?_); (case h1 => assumption); (case h2 => walk_at "mem"); (case h3 => rfl))
  | ((with_reducible refine' g_prop ?h1 ?h2 ?_); (case h1 => assumption); (case h2 => walk_at "mem"))
  | ((with_reducible refine' g_make ?h1 ?_); (case h1 => assumption); intro x H2 hh2)
  | ((with_reducible refine' g_cat ?h1 ?h2 ?h3 ?h4 ?_); (case h1 => assumption); (case h2 => walk_at "mem"); (case h3 => walk_at "mem"); (case h4 => walk_at "sz"); intro p H2 hh2)
  | ((with_reducible refine' g_inT ?h1 ?h2 ?h3 ?h4 ?h5 ?_); (case h1 => assumption); (case h2 => walk_at "mem"); (case h3 => rfl); (case h4 => rfl); (case h5 => rfl)))
local macro_rules | `(tactic| walk_at "gs") => `(tactic| repeat first | walk_at "s1" | walk_at "g1")
local macro_rules | `(tactic| walk_at "ite") => `(tactic| first
  | ((with_reducible refine' w_iteT ?h1 ?_); (case h1 => omega))
  | ((with_reducible refine' w_iteF ?h1 ?_); (case h1 => omega))
  | (with_reducible refine w_ite ?_ ?_ <;> intro hq)
  | ((with_reducible refine' w_iteNT ?h1 ?_); (case h1 => omega))
  | ((with_reducible refine' w_iteNF ?h1 ?_); (case h1 => omega))
  | (with_reducible refine w_iteN ?_ ?_ <;> intro hq))
local macro_rules | `(tactic| walk_at "go") => `(tactic| repeat' first | walk_at "s1" | walk_at "g1" | walk_at "ite")
local macro_rules | `(tactic| walk_at "g1") => `(tactic| first
  | ((with_reducible refine' g_take1 ?h1 ?h2 ?h3 ?h4 ?_); (case h1 => assumption); (case h2 => walk_at "spl"); (case h3 => omega); (case h4 => omega); intro k H2 hk1 hh2)
  | ((with_reducible refine' g_take ?h1 ?h2 ?h4 ?_); (case h1 => assumption); (case h2 => walk_at "spl"); (case h4 => omega); intro k H2 hk1 hh2)
  | ((with_reducible refine' g_betweenN ?h1 ?h2 ?h5 ?h3 ?h4 ?_); (case h1 => assumption); (case h2 => walk_at "spl"); (case h5 => omega); (case h3 => omega); (case h4 => omega); intro k H2 hk1 hk2 hh2)
  | ((with_reducible refine' g_between ?h1 ?h2 ?h3 ?h4 ?_); (case h1 => assumption); (case h2 => walk_at "spl"); (case h3 => omega); (case h4 => omega); intro k H2 hk1 hk2 hh2)
  | ((with_reducible refine' g_size ?h1 ?h2 ?h3 ?h4 ?_); (case h1 => assumption); (case h2 => walk_at "spl"); (case h3 => omega); (case h4 => omega); intro k H2 hk1 hh2)
  | ((with_reducible refine' g_word ?h1 ?h2 ?_); (case h1 => assumption); (case h2 => walk_at "spl"); intro k H2 hk1 hh2))
local macro_rules | `(tactic| walk_at "g1") => `(tactic| first | with_reducible refine w_sl ?_ | with_reducible refine w_part ?_ | with_reducible refine w_noPart ?_ | with_reducible refine w_exI ?_)
local macro_rules | `(tactic| walk_at "g1") => `(tactic| first | with_reducible refine w_din ?_ | with_reducible refine w_dnotin ?_ | with_reducible refine w_dget ?_ | with_reducible refine w_dput ?_ | with_reducible refine w_ddel ?_ | with_reducible refine w_dpop ?_)
section
variable {P : Program} {w : World} {K : PySem.W.Frag} {mg : Str → Option Value} {base : Heap} {aREG aOPS : Addr}
/-- one that sleeps has age 0 -/
def Good (S : AgS) : Prop := ∀ k m, S k = some m → m.ready = false → m.age = 0
def pidOf : Deed → Nat
  | .enter k _ _ => k
  | .pick => 0
  | .leave k => k
  | .wake k => k
  | .sleep k => k
  | .lend k _ => k
theorem step_ne {S : AgS} {d : Deed} {k : Nat} (h : k ≠ pidOf d) : stepS S d k = S k := by
  cases d <;> first | rfl | exact upS_ne h
theorem RowsIn.dn {S : AgS} {ks : List Nat} {xs : List V} {Y : List Cell} {i k : Nat} {x : V} {m : Mb} (h : RowsIn K S ks xs Y) (hx : xs[i]? = some x) (hk : ks[i]? = some k) (hm : S k = some m) {H : Hp} (hh : Hd H Y) : Dn K [] H 1 x (mbP k m) := by
  obtain ⟨d, hd, dn⟩ := paired_at (h H hh) hx
  unfold rowsP at hd
  rw [List.getElem?_map, hk] at hd
  cases hd
  have e : ((S k).map (mbP k)).getD .none = mbP k m := by rw [hm]; rfl
  exact e ▸ dn
theorem RowsIn.snoc {S : AgS} {ks : List Nat} {xs : List V} {Y Y2 : List Cell} {k : Nat} {x : V} {m : Mb} (h : RowsIn K S ks xs Y) (hs : ∀ H, Hd H Y2 → Hd H Y) (hm : S k = some m) (hd : ∀ H, Hd H Y2 → Dn K [] H 1 x (mbP k m)) : RowsIn K S (ks ++ [k]) (xs ++ [x]) Y2 := fun H hh => by
  unfold rowsP
  rw [List.map_append]
  refine pSnoc (h H (hs H hh)) ?_
  show Dn K [] H 1 x (((S k).map (mbP k)).getD .none)
  rw [hm]
  exact hd H hh
theorem dn_new {H : Hp} {L : List Cell} {t : Addr} {k : Nat} {m : Mb} (hh : Hd H L) (h : tupC t (rowV k m) ∈ L) : Dn K [] H 1 (.ref t) (mbP k m) :=
  .inr (.inr ⟨t, _, _, rfl, rfl, List.not_mem_nil, hh.sqT h, (show 5 ≤ 100000 by decide), .cons Dn.int (.cons Dn.int (.cons Dn.int (.cons Dn.bl (.cons Dn.int .nil))))⟩)
def hasB (S : AgS) (k : Nat) : Bool := (S k).isSome
def sp_due (K : PySem.W.Frag) : Sp := fun vs H Q _ => ∃ (a t : Addr) (d : Deed) (S : AgS) (xs : List V) (Y R : List Cell), vs = [.ref a, .ref t] ∧ RowsIn K S (keys8 S) xs Y ∧ d ≠ .pick ∧ ok1 (domS S) d ∧ Good S ∧ tupC t (dV d) ∈ R ∧ Hd H (lstC a xs :: (Y ++ R)) ∧
  ∀ D H', Hd H' (lstC a xs :: (Y ++ R)) → Dn K [] H' 2 (.ref D) (.list (rowsP (stepS S d) (keys8 (stepS S d)))) → Q (.ref D) H'
theorem c_due (T : Txt K mg aREG aOPS) (d : DefAt K mg "_law_due_rows" s__law_due_rows) : C8.Cal P w K mg base 1 "_law_due_rows" (sp_due K) [] := by
  refine mk d sc__law_due_rows (fun _ _ _ _ _ _ us hl => match us, hl with | [_, _], _ => rfl) (fun vs H Q E h => ?_) (fun fa cdv A outer s H vs Q E hr h => ?_)
  · obtain ⟨a, t, d, S, xs, Y, R, rfl, _⟩ := h
    rfl
  · obtain ⟨a, t, d, S, xs, Y, R, rfl, hY, hnp, hok, hG, ht, hh, q⟩ := h
    have hkl := keys_len S
    have hxl : xs.length = (keys8 S).length := hY.len (show Hd H (Y ++ _) from Hd.sb (A := Y ++ (lstC a xs :: R)) hh (by walk_at "sbx"))
    have ht2 : tupC t (dV d) ∈ Y ++ R := List.mem_append_right _ ht
    have hat1 : atI (dV d) 1 = some (V.int (pidOf d)) := by cases d <;> first | exact absurd rfl hnp | rfl
    have sq := hh.sqT (K := K) (List.mem_cons_of_mem _ ht2)
    refine ⟨_, (pss_cons (ps_set (i := 2) sc__law_due_rows.nd rfl (Or.inl rfl) (pe_ix ix_tup (pv 1) pe_int (fun _ _ => rfl)))
  (pss_cons (ps_set (i := 3) sc__law_due_rows.nd rfl (Or.inl rfl) (pe_lst pa_nil))
  (pss_cons (ps_for PassesOwn.never rfl (pi_list (pv 0)) (pg_name (i := 4) sc__law_due_rows.nd rfl (Or.inl rfl))
    (pss_one (ps_if (pt_cmpR op_ne (pe_ix ix_tup (pv 4) pe_int (fun _ _ => rfl)) (pv 2) (nomark _))
        (pss_one (ps_expr (pe_bm PySem.F.plainAttrs_list PySem.F.slot_list_append PySem.F.type_list_append mt_append (pv 3) (pa_cons (pv 4) pa_nil))))
        (pss_one (ps_if (pt_cmpR op_eq (pe_ix ix_tup (pv 1) pe_int (fun _ _ => rfl)) pe_str (nomark _))
            (pss_one (ps_expr (pe_bm PySem.F.plainAttrs_list PySem.F.slot_list_append PySem.F.type_list_append mt_append (pv 3) (pa_cons (pe_tup (pa_cons (pv 2) (pa_cons (pe_ix ix_tup (pv 4) pe_int (fun _ _ => rfl)) (pa_cons (pe_ix ix_tup (pv 1) pe_int (fun _ _ => rfl)) (pa_cons (pe_ix ix_tup (pv 4) pe_int (fun _ _ => rfl)) (pa_cons (pe_ix ix_tup (pv 4) pe_int (fun _ _ => rfl)) pa_nil)))))) pa_nil))))
            (pss_one (ps_if (pt_cmpR op_eq (pe_ix ix_tup (pv 1) pe_int (fun _ _ => rfl)) pe_str (nomark _))
                (pss_one (ps_expr (pe_bm PySem.F.plainAttrs_list PySem.F.slot_list_append PySem.F.type_list_append mt_append (pv 3) (pa_cons (pe_tup (pa_cons (pv 2) (pa_cons (pe_ix ix_tup (pv 4) pe_int (fun _ _ => rfl)) (pa_cons (pe_ix ix_tup (pv 4) pe_int (fun _ _ => rfl)) (pa_cons pe_bl (pa_cons pe_int pa_nil)))))) pa_nil))))
                (pss_one (ps_if (pt_cmpR op_eq (pe_ix ix_tup (pv 1) pe_int (fun _ _ => rfl)) pe_str (nomark _))
                    (pss_one (ps_expr (pe_bm PySem.F.plainAttrs_list PySem.F.slot_list_append PySem.F.type_list_append mt_append (pv 3) (pa_cons (pe_tup (pa_cons (pv 2) (pa_cons (pe_ix ix_tup (pv 4) pe_int (fun _ _ => rfl)) (pa_cons (pe_ix ix_tup (pv 4) pe_int (fun _ _ => rfl)) (pa_cons pe_bl (pa_cons (pe_op op_mul (pe_ix ix_tup (pv 4) pe_int (fun _ _ => rfl)) (pe_callTy Wk.b_int (by rfl) T.b_int (by decide +kernel) (pa_cons (pe_ix ix_tup (pv 4) pe_int (fun _ _ => rfl)) pa_nil))) pa_nil)))))) pa_nil))))
                    pss_nil)))))))))
  (pss_cons (ps_if (pt_cmpR op_eq (pe_ix ix_tup (pv 1) pe_int (fun _ _ => rfl)) pe_str (nomark _))
    (pss_one (ps_expr (pe_bm PySem.F.plainAttrs_list PySem.F.slot_list_append PySem.F.type_list_append mt_append (pv 3) (pa_cons (pe_tup (pa_cons (pv 2) (pa_cons (pe_ix ix_tup (pv 1) pe_int (fun _ _ => rfl)) (pa_cons pe_int (pa_cons (pe_ix ix_tup (pv 1) pe_int (fun _ _ => rfl)) (pa_cons pe_int pa_nil)))))) pa_nil))))
    pss_nil)
  (pss_one (ps_ret (pe_callB (Wk.cr_sortedDat hr.units) (by rfl) T.b_sorted (by decide +kernel) (pa_cons (pv 3) pa_nil)))))))), ?_⟩
    walk_at "gs"
    rename_i D H2 h2
    clear sq
    refine l_list (h2.sqL (by walk_at "mem")) (fun i σ H => ∃ (ys : List V) (Yn : List Cell) (v4 : Option V), σ = [some (.ref a), some (.ref t), some (.int (pidOf d)), some (.ref D), v4] ∧ i ≤ 8 ∧ ys.length ≤ i ∧ RowsIn K (stepS S d) (((keys8 S).take i).filter (hasB (stepS S d))) ys (Yn ++ Y) ∧
      Hd H (lstC D ys :: (Yn ++ (lstC a xs :: (Y ++ R))))) ⟨[], [], _, rfl, by omega, Nat.le_refl _, fun _ _ => .nil, h2⟩ (fun i σ H _ h => by obtain ⟨_, _, _, _, _, _, _, h⟩ := h; exact h.sqL (by walk_at "mem")) ?_ ?_
    · rintro i x σ H3 hx ⟨ys, Yn, v4, rfl, hi8, hyl, hR, h3⟩
      obtain ⟨k, m, tt, hk, hm, rfl, hrow⟩ := hY.at_ keys_some hx (show Hd H3 (Y ++ _) from Hd.sb (A := Y ++ (lstC D ys :: (Yn ++ (lstC a xs :: R)))) h3 (by walk_at "sbx"))
      have hr3 := hrow H3 (lstC D ys :: (Yn ++ (lstC a xs :: R))) (Hd.sb h3 (by walk_at "sbx"))
      have hi : i < (keys8 S).length := (List.getElem?_eq_some_iff.mp hk).1
      have e1 : ((keys8 S).take (i + 1)).filter (hasB (stepS S d)) = ((keys8 S).take i).filter (hasB (stepS S d)) ++ [k].filter (hasB (stepS S d)) := by rw [tk_succ hk, List.filter_append]
      have sq3 := h3.sqT (K := K) (List.mem_cons_of_mem _ (List.mem_append_right _ (List.mem_cons_of_mem _ ht2)))
      clear hh h2
      walk_at "gs"
      refine w_iteN (fun e => ?_) (fun e => ?_)
      · have hS : stepS S d k = some m := by rw [step_ne (fun z => e (by rw [z]))]; exact hm
        walk_at "gs"
        rename_i H4 h4
        refine ⟨ys ++ [.ref tt], Yn, _, rfl, by omega, by rw [List.length_append]; show ys.length + 1 ≤ i + 1; omega, ?_, h4⟩
        rw [e1, show [k].filter (hasB (stepS S d)) = [k] from List.filter_cons_of_pos (by unfold hasB; rw [hS]; rfl)]
        exact hR.snoc (fun _ h => h) hS fun H hh => hY.dn hx hk hm (hh.sb (Sb.right Sb.refl))
      · have e : k = pidOf d := by omega
        cases d with
        | pick => exact absurd rfl hnp
        | enter k' p r =>
          have e : k = k' := e
          subst e
          have := hok.2.2
          rw [show domS S k = (S k).isSome from rfl, hm] at this
          cases this
        | leave k' =>
          have e : k = k' := e
          subst e
          have sq3 : SqT K H3 t [V.str (Str.ofString "leave"), V.int (k : Int)] := sq3
          walk_at "gs"
          refine ⟨ys, Yn, _, rfl, by omega, by omega, ?_, h3⟩
          rw [e1, show [k].filter (hasB (stepS S (.leave k))) = [] from List.filter_cons_of_neg (by unfold hasB; rw [show stepS S (.leave k) k = none from upS_same ..]; decide), List.append_nil]
          exact hR
        | wake k' =>
          have e : k = k' := e
          subst e
          have sq3 : SqT K H3 t [V.str (Str.ofString "wake"), V.int (k : Int)] := sq3
          have hS : stepS S (.wake k) k = some (wakeM m) := by rw [show stepS S (.wake k) k = (S k).map wakeM from upS_same .., hm]; rfl
          have hag : (m.age : Int) * (if m.ready = true then 1 else 0) = (m.age : Int) := by
            cases hrd : m.ready with
            | true => rw [if_pos rfl]; omega
            | false => rw [hG k m hm hrd]; rfl
          walk_at "gs"
          refine .inr ⟨_, rfl, ?_⟩
          walk_at "gs"
          rename_i tn H4 h4 H5 h5
          rw [hag] at h5
          refine ⟨ys ++ [.ref tn], tupC tn (rowV k (wakeM m)) :: Yn, _, rfl, by omega, by rw [List.length_append]; show ys.length + 1 ≤ i + 1; omega, ?_, Hd.sb (A := lstC D (ys ++ [.ref tn]) :: tupC tn (rowV k (wakeM m)) :: (Yn ++ (lstC a xs :: (Y ++ R)))) (show Hd H5 (lstC D (ys ++ [.ref tn]) :: tupC tn (rowV k (wakeM m)) :: _) from h5) (by walk_at "sbx")⟩
          rw [e1, show [k].filter (hasB _) = [k] from List.filter_cons_of_pos (by unfold hasB; rw [hS]; rfl)]
          exact RowsIn.snoc (Y2 := (tupC tn (rowV k (wakeM m)) :: Yn) ++ Y) hR (fun _ h => h.tail) hS fun H hh => dn_new hh (List.mem_cons_self ..)
        | sleep k' =>
          have e : k = k' := e
          subst e
          have sq3 : SqT K H3 t [V.str (Str.ofString "sleep"), V.int (k : Int)] := sq3
          have hS : stepS S (.sleep k) k = some (sleepM m) := by rw [show stepS S (.sleep k) k = (S k).map sleepM from upS_same .., hm]; rfl
          walk_at "gs"
          rename_i tn H4 h4 H5 h5
          refine ⟨ys ++ [.ref tn], tupC tn (rowV k (sleepM m)) :: Yn, _, rfl, by omega, by rw [List.length_append]; show ys.length + 1 ≤ i + 1; omega, ?_, Hd.sb (A := lstC D (ys ++ [.ref tn]) :: tupC tn (rowV k (sleepM m)) :: (Yn ++ (lstC a xs :: (Y ++ R)))) (show Hd H5 (lstC D (ys ++ [.ref tn]) :: tupC tn (rowV k (sleepM m)) :: _) from h5) (by walk_at "sbx")⟩
          rw [e1, show [k].filter (hasB _) = [k] from List.filter_cons_of_pos (by unfold hasB; rw [hS]; rfl)]
          exact RowsIn.snoc (Y2 := (tupC tn (rowV k (sleepM m)) :: Yn) ++ Y) hR (fun _ h => h.tail) hS fun H hh => dn_new hh (List.mem_cons_self ..)
        | lend k' p =>
          have e : k = k' := e
          subst e
          have sq3 : SqT K H3 t [V.str (Str.ofString "lend"), V.int (k : Int), V.int (p : Int)] := sq3
          have hS : stepS S (.lend k p) k = some { m with lent := p } := by rw [show stepS S (.lend k p) k = (S k).map (fun m => { m with lent := p }) from upS_same .., hm]; rfl
          walk_at "gs"
          rename_i tn H4 h4 H5 h5
          refine ⟨ys ++ [.ref tn], tupC tn (rowV k ({ m with lent := p })) :: Yn, _, rfl, by omega, by rw [List.length_append]; show ys.length + 1 ≤ i + 1; omega, ?_, Hd.sb (A := lstC D (ys ++ [.ref tn]) :: tupC tn (rowV k ({ m with lent := p })) :: (Yn ++ (lstC a xs :: (Y ++ R)))) (show Hd H5 (lstC D (ys ++ [.ref tn]) :: tupC tn (rowV k ({ m with lent := p })) :: _) from h5) (by walk_at "sbx")⟩
          rw [e1, show [k].filter (hasB _) = [k] from List.filter_cons_of_pos (by unfold hasB; rw [hS]; rfl)]
          exact RowsIn.snoc (Y2 := (tupC tn (rowV k ({ m with lent := p })) :: Yn) ++ Y) hR (fun _ h => h.tail) hS fun H hh => dn_new hh (List.mem_cons_self ..)
    · rintro σ H3 ⟨ys, Yn, v4, rfl, hi8, hyl, hR, h3⟩
      rw [hxl, List.take_length] at hR
      have sq3 := h3.sqT (K := K) (List.mem_cons_of_mem _ (List.mem_append_right _ (List.mem_cons_of_mem _ ht2)))
      clear hh h2
      have hdom : ∀ j, domS (stepS S d) j = dom1 (domS S) d j := fun j => Out.dom (r := .non) (.inr ⟨hnp, rfl, rfl⟩) hok j
      have hS8 : ∀ j, j ∈ keys8 (stepS S d) ↔ j < 8 ∧ domS (stepS S d) j = true := fun j => keysS_mem
      have nd : ((keys8 S).filter (hasB (stepS S d))).Nodup := (show (keys8 S).Nodup from keysS_asc.imp fun h => Nat.ne_of_lt h).sublist List.filter_sublist
      have hks : ∀ j ∈ (keys8 S).filter (hasB (stepS S d)), (stepS S d j).isSome = true := fun j hj => (List.mem_filter.mp hj).2
      have hfl : ((keys8 S).filter (hasB (stepS S d))).length ≤ 8 := Nat.le_trans (List.length_filter_le _ _) hkl
      have hmem : (∀ j, domS (stepS S d) j = true → domS S j = true) → ∀ j, j ∈ (keys8 S).filter (hasB (stepS S d)) ↔ j ∈ keys8 (stepS S d) := fun hsub j => by
        rw [List.mem_filter, keysS_mem, keysS_mem]
        exact ⟨fun h => ⟨h.1.1, h.2⟩, fun h => ⟨⟨h.1, hsub j h.2⟩, h.2⟩⟩
      cases d with
      | pick => exact absurd rfl hnp
      | enter k p r =>
        have sq3 : SqT K H3 t [V.str (Str.ofString "enter"), V.int (k : Int), V.int (p : Int), V.bl r] := sq3
        obtain ⟨hk8, hp7, hno⟩ := hok
        have hS : stepS S (.enter k p r) k = some (newM p r) := upS_same ..
        walk_at "gs"
        rename_i tn H4 h4 H5 h5
        have hR2 := RowsIn.snoc (Y2 := (tupC tn (rowV k (newM p r)) :: Yn) ++ Y) hR (fun _ h => h.tail) hS fun H hh => dn_new hh (List.mem_cons_self ..)
        have h5 : Hd H5 (lstC D (ys ++ [.ref tn]) :: tupC tn (rowV k (newM p r)) :: (Yn ++ (lstC a xs :: (Y ++ R)))) := h5
        have hkn : k ∉ (keys8 S).filter (hasB (stepS S (.enter k p r))) := fun z => by
          have := (keysS_mem.mp (List.mem_filter.mp z).1).2
          rw [show domS S k = (S k).isSome from rfl, this] at hno
          cases hno
        refine g_sortRows hR2 (fun j hj => (List.mem_append.mp hj).elim (hks j) fun e => by rw [List.mem_singleton.mp e, hS]; rfl) (List.nodup_append.mpr ⟨nd, List.nodup_cons.mpr ⟨List.not_mem_nil, List.nodup_nil⟩, fun x hx y hy e => by rw [List.mem_singleton.mp hy] at e; exact hkn (e ▸ hx)⟩) (fun j => ?_) (by rw [List.length_append]; show _ + 1 ≤ 100; omega) h5 (List.mem_cons_self ..) (fun H' h' => show Hd H' (tupC tn (rowV k (newM p r)) :: (Yn ++ Y)) from Hd.sb h' (by walk_at "sbx")) fun pp H' h' dn => ?_
        · rw [List.mem_append, List.mem_singleton, List.mem_filter, keysS_mem, hS8, hdom]
          show (_ ∧ domS (stepS S (.enter k p r)) j = true) ∨ j = k ↔ j < 8 ∧ (decide (j = k) || domS S j) = true
          rw [hdom]
          show ((j < 8 ∧ domS S j = true) ∧ (decide (j = k) || domS S j) = true) ∨ j = k ↔ j < 8 ∧ (decide (j = k) || domS S j) = true
          rw [Bool.or_eq_true, decide_eq_true_iff]
          constructor
          · rintro (⟨h1, h2⟩ | rfl)
            · exact ⟨h1.1, h2⟩
            · exact ⟨hk8, .inl rfl⟩
          · rintro ⟨h1, rfl | h2⟩
            · exact .inr rfl
            · exact .inl ⟨⟨h1, h2⟩, .inr h2⟩
        · exact q pp H' (Hd.sb h' (by walk_at "sbx")) dn
      | leave k =>
        have sq3 : SqT K H3 t [V.str (Str.ofString "leave"), V.int (k : Int)] := sq3
        walk_at "gs"
        refine g_sortRows hR hks nd (hmem fun j hj => by rw [hdom] at hj; exact (Bool.and_eq_true_iff.mp hj).2) (by omega) h3 (List.mem_cons_self ..) (fun H' h' => Hd.sb h' (by walk_at "sbx")) fun pp H' h' dn => ?_
        exact q pp H' (Hd.sb h' (by walk_at "sbx")) dn
      | wake k =>
        have sq3 : SqT K H3 t [V.str (Str.ofString "wake"), V.int (k : Int)] := sq3
        walk_at "gs"
        refine g_sortRows hR hks nd (hmem fun j hj => by rw [hdom] at hj; exact hj) (by omega) h3 (List.mem_cons_self ..) (fun H' h' => Hd.sb h' (by walk_at "sbx")) fun pp H' h' dn => ?_
        exact q pp H' (Hd.sb h' (by walk_at "sbx")) dn
      | sleep k =>
        have sq3 : SqT K H3 t [V.str (Str.ofString "sleep"), V.int (k : Int)] := sq3
        walk_at "gs"
        refine g_sortRows hR hks nd (hmem fun j hj => by rw [hdom] at hj; exact hj) (by omega) h3 (List.mem_cons_self ..) (fun H' h' => Hd.sb h' (by walk_at "sbx")) fun pp H' h' dn => ?_
        exact q pp H' (Hd.sb h' (by walk_at "sbx")) dn
      | lend k p =>
        have sq3 : SqT K H3 t [V.str (Str.ofString "lend"), V.int (k : Int), V.int (p : Int)] := sq3
        walk_at "gs"
        refine g_sortRows hR hks nd (hmem fun j hj => by rw [hdom] at hj; exact hj) (by omega) h3 (List.mem_cons_self ..) (fun H' h' => Hd.sb h' (by walk_at "sbx")) fun pp H' h' dn => ?_
        exact q pp H' (Hd.sb h' (by walk_at "sbx")) dn
end
end K23
set_option Elab.async false
set_option linter.all false
set_option maxRecDepth 100000
set_option maxHeartbeats 4000000
namespace K23
open PySem PySem.Spec PyProof.Rows L2 Wk
local macro_rules | `(tactic| walk_at "u1") => `(tactic| fail "no more")
local macro_rules | `(tactic| walk_at "pos") => `(tactic| first | assumption | omega | decide | (simp only [Int.ofNat_eq_natCast] at *; omega))
local macro_rules | `(tactic| walk_at "sz") => `(tactic| first
  | (simp only [List.length_cons, List.length_nil]; decide)
  | exact Evl.sz_of (by omega)
  | exact Evl.sz_lt (by omega)
  | exact Evl.sz_of (by simp only [List.length_map, List.length_append, List.length_cons, List.length_nil, List.length_replicate]; omega)
  | exact Evl.sz_lt (by simp only [List.length_map, List.length_append, List.length_cons, List.length_nil, List.length_replicate]; omega))
local macro_rules | `(tactic| walk_at "cond") => `(tactic| first
  | exact Or.inr ⟨by decide, by decide⟩
  | (show (0 : Int) < _; first | decide | assumption | omega)
  | exact Or.inl ⟨by omega, by omega⟩
  | exact Or.inr ⟨by omega, by omega⟩
  | exact ⟨by decide, by decide, by decide⟩
  | exact log2_lt (by omega) (by omega)
  | exact ⟨by omega, by omega⟩)
local macro_rules | `(tactic| walk_at "ty") => `(tactic| first
  | exact ty_int | exact ty_bl | exact ty_str | exact ty_non
  | exact ty_L (by assumption) | exact ty_T (by assumption)
  | exact ty_L (SqL.of (by assumption)) | exact ty_T (SqT.of (by assumption)))
local macro_rules | `(tactic| walk_at "kit") => `(tactic| first
  | exact k_ii | exact k_ib | exact k_is | exact k_il | exact k_it
  | exact k_bb | exact k_bi | exact k_bs | exact k_bl | exact k_bt
  | exact k_ss | exact k_sb | exact k_si | exact k_sl | exact k_st
  | exact k_ll | exact k_lb | exact k_li | exact k_ls | exact k_lt
  | exact k_tt | exact k_tb | exact k_ti | exact k_ts | exact k_tl
  | exact k_nn | exact k_ni | exact k_ns | exact k_nl | exact k_nt)
local macro_rules | `(tactic| walk_at "s1") => `(tactic| first
  | with_reducible refine w_seq ?_
  | with_reducible refine w_set ?_
  | with_reducible refine w_op ?_
  | ((with_reducible refine' w_var ?h1 ?_); (case h1 => rfl))
  | with_reducible refine w_c ?_
  | with_reducible refine w_cb ?_
  | with_reducible refine w_cons ?_
  | with_reducible refine w_nil ?_
  | with_reducible refine w_I0 ?_
  | ((with_reducible refine' w_I ?c1 ?_); case c1 => walk_at "cond")
  | with_reducible refine w_ret ?_
  | with_reducible refine w_next ?_
  | with_reducible refine w_ifS ?_
  | with_reducible refine w_test ?_
  | with_reducible refine w_tB ?_
  | with_reducible refine w_k ?_
  | with_reducible refine w_eqI ?_
  | with_reducible refine w_neI ?_
  | with_reducible refine w_eqS ?_
  | with_reducible refine w_neS ?_
  | with_reducible refine w_and ?_
  | with_reducible refine w_or ?_
  | with_reducible refine w_not ?_
  | with_reducible refine w_andV ?_
  | with_reducible refine w_orV ?_
  | with_reducible refine w_notV ?_
  | with_reducible refine w_ifE ?_
  | with_reducible refine w_true ?_
  | with_reducible refine w_false ?_
  | with_reducible refine w_ntrue ?_
  | with_reducible refine w_nfalse ?_
  | with_reducible refine w_call ?_
  | with_reducible refine c_int ?_
  | with_reducible refine c_abs ?_
  | with_reducible refine c_max ?_
  | with_reducible refine c_min ?_
  | with_reducible refine w_drop ?_
  | with_reducible refine w_sfld ?_
  | with_reducible refine w_meth ?_
  | with_reducible refine w_make ?_
  | with_reducible refine w_prop ?_
  | with_reducible refine w_callK ?_
  | with_reducible refine w_callN ?_
  | with_reducible refine w_star ?_
  | with_reducible refine w_gcons ?_
  | with_reducible refine w_gname ?_
  | with_reducible refine w_gnil ?_
  | with_reducible refine w_retN ?_
  | with_reducible refine w_tup ?_
  | with_reducible refine w_lst ?_
  | with_reducible refine w_fld ?_
  | with_reducible refine w_bm ?_
  | with_reducible refine w_bm0 ?_
  | with_reducible refine w_forL ?_
  | with_reducible refine w_forT ?_
  | with_reducible refine w_forS ?_
  | with_reducible refine w_forR ?_
  | with_reducible refine w_lcR ?_
  | with_reducible refine w_lcL ?_
  | with_reducible refine w_lcT ?_
  | with_reducible refine w_isN ?_
  | with_reducible refine w_notN ?_
  | with_reducible refine w_asg ?_
  | with_reducible refine w_gsub ?_
  | ((with_reducible refine' w_aug ?h1 ?_); (case h1 => rfl))
  | with_reducible refine w_augS ?_
  | with_reducible refine w_ipI ?_
  | with_reducible refine w_un ?_
  | with_reducible refine w_U ?_
  | ((with_reducible refine' w_iteF ?f1 ?_); case f1 => (first | (intro h; cases h; done) | decide))
  | ((with_reducible refine' w_iteT ?f1 ?_); case f1 => rfl)
  | ((with_reducible refine' w_iteNF ?f1 ?_); case f1 => rfl)
  | ((with_reducible refine' w_iteNT ?f1 ?_); case f1 => (first | (intro h; cases h; done) | decide))
  | ((with_reducible refine' c_isi ?t1 ?k1 ?_); (case t1 => walk_at "ty"); (case k1 => walk_at "kit"))
  | ((with_reducible refine' w_eq ?e1 ?_); case e1 => rfl)
  | ((with_reducible refine' w_ne ?e1 ?_); case e1 => rfl)
  | walk_at "u1")
local macro_rules | `(tactic| walk_at "s") => `(tactic| repeat walk_at "s1")
local macro_rules | `(tactic| walk_at "mem") => `(tactic| first | with_reducible exact List.mem_cons_self .. | ((with_reducible refine' List.mem_cons_of_mem _ ?q); (case q => walk_at "mem")) | assumption | ((with_reducible refine' List.mem_append_right _ ?q); (case q => walk_at "mem")) | (exact List.mem_append_left _ (by assumption)))
local macro_rules | `(tactic| walk_at "pk") => `(tactic| first | with_reducible exact Pk.here | ((with_reducible refine' Pk.there ?q); (case q => walk_at "pk")) | ((with_reducible refine' Pk.app ?q); (case q => walk_at "pk")))
local macro_rules | `(tactic| walk_at "pkb") => `(tactic| first | with_reducible exact PkB.here | ((with_reducible refine' PkB.there ?q); (case q => walk_at "pkb")) | ((with_reducible refine' PkB.app ?q); (case q => walk_at "pkb")))
local macro_rules | `(tactic| walk_at "spl") => `(tactic| first | with_reducible exact Spl.nil | ((with_reducible refine' Spl.cons ?h ?t); (case h => walk_at "pk"); (case t => walk_at "spl")) | ((with_reducible refine' Spl.blk ?h ?t); (case h => walk_at "pkb"); (case t => walk_at "spl")))
local macro_rules | `(tactic| walk_at "sbx") => `(tactic| first | with_reducible exact Sb.refl | with_reducible exact Sb.nil | with_reducible exact Sb.left | ((with_reducible refine' Sb.cons ?h ?t); (case h => walk_at "pk"); (case t => walk_at "sbx")) | ((with_reducible refine' Sb.blk ?h ?t); (case h => walk_at "pkb"); (case t => walk_at "sbx")) | ((with_reducible refine' Sb.drop ?q); (case q => walk_at "sbx")) | ((with_reducible refine' Sb.right ?q); (case q => walk_at "sbx")))
local macro_rules | `(tactic| walk_at "hd") => `(tactic| first | assumption | exact Hd.sb (by assumption) (by walk_at "sbx"))
local macro_rules | `(tactic| walk_at "sq") => `(tactic| first
  | assumption
  | exact Hd.sqL (by assumption) (by walk_at "mem")
  | exact Hd.sqT (by assumption) (by walk_at "mem")
  | exact Hd.sqF (by assumption) (by walk_at "mem")
  | (refine .inl ?_; walk_at "sq")
  | (refine .inr ?_; walk_at "sq"))
local macro_rules | `(tactic| walk_at "at") => `(tactic| first | rfl | assumption | exact atI_nat (by assumption))
local macro_rules | `(tactic| walk_at "dn1") => `(tactic| first
  | exact Dn.int | exact Dn.str | exact Dn.non | exact Dn.bl | assumption
  | ((refine' Dn.tp ?a1 ?m1 ?l1 ?p1); (case a1 => assumption); (case m1 => walk_at "mem"); (case l1 => (simp only [List.length_cons, List.length_nil]; omega)); (case p1 => walk_at "dns"))
  | ((refine' Dn.lt ?a1 ?m1 ?l1 ?p1); (case a1 => assumption); (case m1 => walk_at "mem"); (case l1 => (simp only [List.length_cons, List.length_nil]; omega)); (case p1 => walk_at "dns")))
local macro_rules | `(tactic| walk_at "dns") => `(tactic| first | exact Paired.nil | exact Dn.ints | ((refine' Paired.cons ?a1 ?b1); (case a1 => walk_at "dn1"); (case b1 => walk_at "dns")))
local macro_rules | `(tactic| walk_at "g1") => `(tactic| first
  | ((with_reducible refine' g_ixI ?h1 ?h2 ?h3 ?_); (case h1 => assumption); (case h2 => walk_at "mem"); (case h3 => omega); intro z hz)
  | ((with_reducible refine' g_ixIT ?h1 ?h2 ?h3 ?_); (case h1 => assumption); (case h2 => walk_at "mem"); (case h3 => omega); intro z hz)
  | ((with_reducible refine' g_setI ?h1 ?h2 ?h3 ?_); (case h1 => assumption); (case h2 => walk_at "pk"); (case h3 => omega); intro H2 hh2)
  | ((with_reducible refine' w_ixL ?h1 ?h2 ?_); (case h1 => walk_at "sq"); (case h2 => walk_at "at"))
  | ((with_reducible refine' w_ixT ?h1 ?h2 ?_); (case h1 => walk_at "sq"); (case h2 => walk_at "at"))
  | ((with_reducible refine' w_ixAny ?h1 ?h2 ?_); (case h1 => walk_at "sq"); (case h2 => walk_at "at"))
  | ((with_reducible refine' c_lenA ?h1 ?_); (case h1 => walk_at "sq"))
  | ((with_reducible refine' c_isi ?t1 ?k1 ?_); (case t1 => first | exact ty_T (by walk_at "sq") | exact ty_L (by walk_at "sq")); (case k1 => walk_at "kit"))
  | ((with_reducible refine' g_lst ?h1 ?h2 ?_); (case h1 => assumption); (case h2 => walk_at "sz"); intro p H2 hh2)
  | ((with_reducible refine' g_tup ?h1 ?h2 ?_); (case h1 => assumption); (case h2 => walk_at "sz"); intro p H2 hh2)
  | ((with_reducible refine' g_dict ?h1 ?_); (case h1 => assumption); intro p H2 hh2)
  | ((with_reducible refine' g_listL ?h1 ?h2 ?_); (case h1 => assumption); (case h2 => walk_at "sq"); intro p H2 hh2)
  | ((with_reducible refine' g_listT ?h1 ?h2 ?_); (case h1 => assumption); (case h2 => walk_at "sq"); intro p H2 hh2)
  | ((with_reducible refine' g_tupL ?h1 ?h2 ?_); (case h1 => assumption); (case h2 => walk_at "sq"); intro p H2 hh2)
  | ((with_reducible refine' g_set ?h1 ?h2 ?h3 ?_); (case h1 => assumption); (case h2 => walk_at "pk"); (case h3 => first | rfl | assumption | exact Evl.ixN_nat (by first | omega | (simp only [List.length_cons, List.length_nil]; omega))); intro H2 hh2)
  | ((with_reducible refine' g_kbm ?h1 ?h2 ?_); (case h1 => assumption); (case h2 => walk_at "mem"))
  | ((with_reducible refine' g_kbm0 ?h1 ?h2 ?_); (case h1 => assumption); (case h2 => walk_at "mem"))
  | ((with_reducible refine' g_app ?h1 ?h2 ?h3 ?_); (case h1 => assumption); (case h2 => walk_at "pk"); (case h3 => walk_at "sz"); intro H2 hh2)
  | ((with_reducible refine' g_kapp ?h1 ?h2 ?h3 ?_); (case h1 => assumption); (case h2 => walk_at "pk"); (case h3 => walk_at "sz"); intro H2 hh2)
  | ((with_reducible refine' g_fld ?h1 ?h2 ?h3 ?h4 ?h5 ?_); (case h1 => assumption); (case h2 => walk_at "mem"); (case h3 => assumption); (case h4 => assumption); (case h5 => rfl))
  | ((with_reducible refine' g_sfld ?h1 ?h2 ?h3 ?h4 ?h5 ?_); (case h1 => assumption); (case h2 => walk_at "pk"); (case h3 => assumption); (case h4 => assumption); (case h5 => decide); intro H2 hh2)
  | ((with_reducible refine' g_meth ?h1 ?h2 ?h3 ?_); (case h1 => assumption); (case h2 => walk_at "mem"); (case h3 => rfl))
  | ((with_reducible refine' g_prop ?h1 ?h2 ?_); (case h1 => assumption); (case h2 => walk_at "mem"))
  | ((with_reducible refine' g_make ?h1 ?_); (case h1 => assumption); intro x H2 hh2)
  | ((with_reducible refine' g_cat ?h1 ?h2 ?h3 ?h4 ?_); (case h1 => assumption); (case h2 => walk_at "mem"); (case h3 => walk_at "mem"); (case h4 => walk_at "sz"); intro p H2 hh2)
  | ((with_reducible refine' g_inT ?h1 ?h2 ?h3 ?h4 ?h5 ?_); (case h1 => assumption); (case h2 => walk_at "mem"); (case h3 => rfl); (case h4 => rfl); (case h5 => rfl)))
local macro_rules | `(tactic| walk_at "gs") => `(tactic| repeat first | walk_at "s1" | walk_at "g1")
local macro_rules | `(tactic| walk_at "ite") => `(tactic| first
  | ((with_reducible refine' w_iteT ?h1 ?_); (case h1 => omega))
  | ((with_reducible refine' w_iteF ?h1 ?_); (case h1 => omega))
  | (with_reducible refine w_ite ?_ ?_ <;> intro hq)
  | ((with_reducible refine' w_iteNT ?h1 ?_); (case h1 => omega))
  | ((with_reducible refine' w_iteNF ?h1 ?_); (case h1 => omega))
  | (with_reducible refine w_iteN ?_ ?_ <;> intro hq))
local macro_rules | `(tactic| walk_at "go") => `(tactic| repeat' first | walk_at "s1" | walk_at "g1" | walk_at "ite")
local macro_rules | `(tactic| walk_at "g1") => `(tactic| first
  | ((with_reducible refine' g_take1 ?h1 ?h2 ?h3 ?h4 ?_); (case h1 => assumption); (case h2 => walk_at "spl"); (case h3 => omega); (case h4 => omega); intro k H2 hk1 hh2)
  | ((with_reducible refine' g_take ?h1 ?h2 ?h4 ?_); (case h1 => assumption); (case h2 => walk_at "spl"); (case h4 => omega); intro k H2 hk1 hh2)
  | ((with_reducible refine' g_betweenN ?h1 ?h2 ?h5 ?h3 ?h4 ?_); (case h1 => assumption); (case h2 => walk_at "spl"); (case h5 => omega); (case h3 => omega); (case h4 => omega); intro k H2 hk1 hk2 hh2)
  | ((with_reducible refine' g_between ?h1 ?h2 ?h3 ?h4 ?_); (case h1 => assumption); (case h2 => walk_at "spl"); (case h3 => omega); (case h4 => omega); intro k H2 hk1 hk2 hh2)
  | ((with_reducible refine' g_size ?h1 ?h2 ?h3 ?h4 ?_); (case h1 => assumption); (case h2 => walk_at "spl"); (case h3 => omega); (case h4 => omega); intro k H2 hk1 hh2)
  | ((with_reducible refine' g_word ?h1 ?h2 ?_); (case h1 => assumption); (case h2 => walk_at "spl"); intro k H2 hk1 hh2))
local macro_rules | `(tactic| walk_at "g1") => `(tactic| first | with_reducible refine w_sl ?_ | with_reducible refine w_part ?_ | with_reducible refine w_noPart ?_ | with_reducible refine w_exI ?_)
local macro_rules | `(tactic| walk_at "g1") => `(tactic| first | with_reducible refine w_din ?_ | with_reducible refine w_dnotin ?_ | with_reducible refine w_dget ?_ | with_reducible refine w_dput ?_ | with_reducible refine w_ddel ?_ | with_reducible refine w_dpop ?_)
section
variable {P : Program} {w : World} {K : PySem.W.Frag} {mg : Str → Option Value} {base : Heap} {aREG aOPS : Addr}
section
variable {L : List Cell} {H : Hp} {Q : VK} {a b : Addr} {xs ys : List V}
theorem g_catT {K : PySem.W.Frag} (hh : Hd H L) (ha : SqT K H a xs) (hb : SqT K H b ys) (h1 : xs ≠ []) (h2 : ys ≠ []) (hz : xs.length + ys.length ≤ sizeLine) (q : ∀ p H2, Hd H2 (tupC p (xs ++ ys) :: L) → Q (.ref p) H2) : rCatT K (.ref a) (.ref b) H Q :=
  ⟨a, b, xs, ys, rfl, rfl, ha, hb, h1, hz, fun e => absurd e h2, fun _ p hp => q p _ (hh.newT (New.of hp))⟩
theorem g_slT {K : PySem.W.Frag} {lo hi : Option Int} (hh : Hd H L) (ha : SqT K H a xs) (hn : ¬ (HT.sIx xs.length 0 lo = 0 ∧ HT.sIx xs.length xs.length hi = xs.length)) (e : cutV xs lo hi = ys) (q : ∀ p H2, Hd H2 (tupC p ys :: L) → Q (.ref p) H2) : rSlT K (.ref a) lo hi H Q :=
  ⟨a, xs, rfl, ha, hn, fun p hp => q p _ (hh.newT (e ▸ New.of hp))⟩
end
theorem dn_tab {S : AgS} {ks : List Nat} {xs : List V} {Y L : List Cell} {H : Hp} {a : Addr} (h : RowsIn K S ks xs Y) (hh : Hd H L) (m : lstC a xs ∈ L) (hl : xs.length ≤ 100000) (hy : Hd H Y) : Dn K [] H 2 (.ref a) (.list (rowsP S ks)) :=
  .inr (.inl ⟨a, xs, _, rfl, rfl, List.not_mem_nil, hh.sqL m, hl, h H hy⟩)
theorem pick_none {S : AgS} {p j : Nat} : (pickS S p j).isSome = (S j).isSome := by
  unfold pickS upS
  split
  · rename_i h; subst h; exact Option.isSome_map
  · exact agedS_some ..
theorem keys_pick {S : AgS} {p : Nat} : keys8 (pickS S p) = keys8 S := List.filter_congr fun _ _ => pick_none
/-- the age behind a pick of p -/
theorem pick_row {S : AgS} {p k : Nat} {m : Mb} (hG : Good S) (hp : IsPick S p) (h8 : k < 8) (hm : S k = some m) : pickS S p k = some { m with age := if k = p then 0 else if m.ready = true then m.age + 1 else 0 } := by
  unfold pickS upS
  by_cases e : k = p
  · subst e
    rw [if_pos rfl, hm, if_pos rfl]
    rfl
  · rw [if_neg e, if_neg e]
    unfold agedS
    cases hr : m.ready with
    | true =>
      rw [if_pos (ready_mem.mpr ⟨h8, m, hm, hr⟩), hm, if_pos rfl]
      cases m
      cases hr
      rfl
    | false =>
      have hn : ¬ k ∈ readyL S := fun z => by
        obtain ⟨_, m', e1, e2⟩ := ready_mem.mp z
        rw [hm] at e1
        cases e1
        rw [hr] at e2
        cases e2
      rw [if_neg hn, hm, if_neg (by decide)]
      have h0 := hG k m hm hr
      cases m
      cases h0
      cases hr
      rfl
def sp_picked (K : PySem.W.Frag) : Sp := fun vs H Q _ => ∃ (a a2 : Addr) (who : V) (S S' : AgS) (xs xs2 : List V) (Y Y2 R : List Cell), vs = [.ref a, who, .ref a2] ∧ RowsIn K S (keys8 S) xs Y ∧ RowsIn K S' (keys8 S') xs2 Y2 ∧ Out S .pick who S' ∧ Good S ∧ Hd H (lstC a xs :: (Y ++ (lstC a2 xs2 :: (Y2 ++ R)))) ∧ ∀ H', Hd H' (lstC a xs :: (Y ++ (lstC a2 xs2 :: (Y2 ++ R)))) → Q (.bl true) H'
theorem c_picked (T : Txt K mg aREG aOPS) (d : DefAt K mg "_law_is_picked" s__law_is_picked) (c__law_alike : C8.Cal P w K mg base 3 "_law_alike" (sp_alike K 3) []) (c__law_is_integer : C8.Cal P w K mg base 1 "_law_is_integer" sp_lisint []) : C8.Cal P w K mg base 4 "_law_is_picked" (sp_picked K) [] := by
  refine mk d sc__law_is_picked (fun _ _ _ _ _ _ us hl => match us, hl with | [_, _, _], _ => rfl) (fun vs H Q E h => ?_) (fun fa cdv A outer s H vs Q E hr h => ?_)
  · obtain ⟨a, a2, who, S, S', xs, xs2, Y, Y2, R, rfl, _⟩ := h
    rfl
  · obtain ⟨a, a2, who, S, S', xs, xs2, Y, Y2, R, rfl, hY, hY2, hout, hG, hh, q⟩ := h
    have hkl := keys_len S
    have hxl : xs.length = (keys8 S).length := hY.len (show Hd H (Y ++ _) from Hd.sb (A := Y ++ (lstC a xs :: (lstC a2 xs2 :: (Y2 ++ R)))) hh (by walk_at "sbx"))
    have hxl2 : xs2.length = (keys8 S').length := hY2.len (show Hd H (Y2 ++ _) from Hd.sb (A := Y2 ++ (lstC a xs :: (Y ++ (lstC a2 xs2 :: R)))) hh (by walk_at "sbx"))
    have hkl2 := keys_len S'
    refine ⟨_, (pss_cons (ps_if (pt_cmpR op_isN1 (pv 1) pe_non (nomark _))
    (pss_one (ps_ret (pe_and (pe_cmpR op_eq (pe_callB Wk.b_len (by rfl) T.b_len (by decide +kernel) (pa_cons (pe_lc (own := [("row", 3)]) rfl sc__law_is_picked.nd (pi_list (pv 0)) (blkOk_by (own := [("row", 3)]) (N := nm__law_is_picked) (sc := defScope s__law_is_picked) (by decide +kernel)) (fun _ _ _ _ _ => (pg_name (i := 3) sc__law_is_picked.nd rfl (Or.inl rfl))) (fun _ _ _ _ _ => (pts_one (pt_val (pe_ix (show IxR _ (rIxT K) from ix_tup) (pv 3) pe_int (fun _ _ => rfl))))) (fun _ _ _ _ _ => (pv 3))) pa_nil)) pe_int (nomark _)) (pe_one (C8.pe_c c__law_alike hr (by first | decide | omega) rfl (pa_cons (pv 0) (pa_cons (pv 2) pa_nil)))))))
    pss_nil)
  (pss_cons (ps_if (PW.pt (pw_or (pt_not (pt_val (C8.pe_c c__law_is_integer hr (by first | decide | omega) rfl (pa_cons (pv 1) (pa_cons pe_int (pa_cons pe_int pa_nil)))))) (pw_or1 (pt_cmpR op_notIn_seq (pv 1) (pe_lc (own := [("row", 3)]) rfl sc__law_is_picked.nd (pi_list (pv 0)) (blkOk_by (own := [("row", 3)]) (N := nm__law_is_picked) (sc := defScope s__law_is_picked) (by decide +kernel)) (fun _ _ _ _ _ => (pg_name (i := 3) sc__law_is_picked.nd rfl (Or.inl rfl))) (fun _ _ _ _ _ => (pts_one (pt_val (pe_ix (show IxR _ (rIxT K) from ix_tup) (pv 3) pe_int (fun _ _ => rfl))))) (fun _ _ _ _ _ => (pe_ix (show IxR _ (rIxT K) from ix_tup) (pv 3) pe_int (fun _ _ => rfl)))) (by rfl)))))
    (pss_one (ps_ret pe_bl))
    pss_nil)
  (pss_cons (ps_set (i := 4) sc__law_is_picked.nd rfl (Or.inl rfl) (pe_lst pa_nil))
  (pss_cons (ps_for PassesOwn.never rfl (pi_list (pv 0)) (pg_name (i := 3) sc__law_is_picked.nd rfl (Or.inl rfl))
    (pss_cons (ps_set (i := 5) sc__law_is_picked.nd rfl (Or.inl rfl) (pe_op op_mul (pe_op op_add (pe_ix (show IxR _ (rIxT K) from ix_tup) (pv 3) pe_int (fun _ _ => rfl)) pe_int) (pe_callTy Wk.b_int (by rfl) T.b_int (by decide +kernel) (pa_cons (pe_ix (show IxR _ (rIxT K) from ix_tup) (pv 3) pe_int (fun _ _ => rfl)) pa_nil))))
      (pss_cons (ps_if (pt_cmpR op_eq (pe_ix (show IxR _ (rIxT K) from ix_tup) (pv 3) pe_int (fun _ _ => rfl)) (pv 1) (nomark _))
        (pss_one (ps_set (i := 5) sc__law_is_picked.nd rfl (Or.inl rfl) pe_int))
        pss_nil)
      (pss_one (ps_expr (pe_bm PySem.F.plainAttrs_list PySem.F.slot_list_append PySem.F.type_list_append mt_append (pv 4) (pa_cons (pe_op op_catT (pe_slice sl_tup (pv 3) po_none (po_some pe_int)) (pe_tup (pa_cons (pv 5) pa_nil))) pa_nil)))))))
  (pss_one (ps_ret (C8.pe_c c__law_alike hr (by first | decide | omega) rfl (pa_cons (pv 4) (pa_cons (pv 2) pa_nil))))))))), ?_⟩
    rcases hout with ⟨_, ⟨hnil, rfl, rfl⟩ | ⟨p, hp, rfl, rfl⟩⟩ | ⟨e, _⟩
    · walk_at "gs"
      have hY' := hY
      refine g_lcLF hh (hh.sqL (by walk_at "mem")) (fun i D H => ∃ zs : List V, zs.length = (((keys8 S').take i).filter (rdyB S')).length ∧ Hd H (lstC D zs :: lstC a xs :: (Y ++ (lstC a2 xs2 :: (Y2 ++ R))))) (fun D H1 h1 => ⟨[], rfl, h1⟩) (fun i D H _ h => by obtain ⟨_, _, h⟩ := h; exact h.sqL (by walk_at "mem")) ?_ ?_
      · rintro i x D H3 hx ⟨zs, hz, h3⟩
        obtain ⟨k, m, tt, hk, hm, rfl, hrow⟩ := hY.at_ keys_some hx (show Hd H3 (Y ++ _) from Hd.sb (A := Y ++ (lstC D zs :: lstC a xs :: (lstC a2 xs2 :: (Y2 ++ R)))) h3 (by walk_at "sbx"))
        have hr3 := hrow H3 (lstC D zs :: lstC a xs :: (lstC a2 xs2 :: (Y2 ++ R))) (Hd.sb h3 (by walk_at "sbx"))
        have hrd : rdyB S' k = m.ready := by unfold rdyB; rw [hm]; rfl
        have e1 : ((keys8 S').take (i + 1)).filter (rdyB S') = ((keys8 S').take i).filter (rdyB S') ++ [k].filter (rdyB S') := by rw [tk_succ hk, List.filter_append]
        have hfl : (((keys8 S').take i).filter (rdyB S')).length ≤ 8 := Nat.le_trans (List.length_filter_le _ _) (Nat.le_trans (List.length_take_le' ..) hkl)
        clear hh
        walk_at "gs"
        rw [e1]
        cases hmr : m.ready with
        | true =>
          rw [show [k].filter (rdyB S') = [k] from List.filter_cons_of_pos (hrd.trans hmr)]
          walk_at "gs"
          rename_i H4 h4
          exact ⟨zs ++ [.ref tt], by rw [List.length_append, List.length_append, hz]; rfl, h4⟩
        | false =>
          rw [show [k].filter (rdyB S') = [] from List.filter_cons_of_neg (by rw [hrd.trans hmr]; decide), List.append_nil]
          walk_at "gs"
          exact ⟨zs, hz, h3⟩
      · rintro D H3 ⟨zs, hz, h3⟩
        rw [hxl, List.take_length, show (keys8 S').filter (rdyB S') = [] from hnil] at hz
        have hz0 : zs = [] := List.eq_nil_of_length_eq_zero hz
        subst hz0
        walk_at "gs"
        refine g_alike (n := 2) (dn_tab hY' h3 (by walk_at "mem") (by omega) (Hd.sb h3 (by walk_at "sbx"))) (dn_tab hY2 h3 (by walk_at "mem") (by omega) (Hd.sb h3 (by walk_at "sbx"))) ?_
        exact q _ (Hd.sb h3 (by walk_at "sbx"))
    · walk_at "gs"
      obtain ⟨hp8, mp, hmp, hmr⟩ := ready_mem.mp hp.1
      refine ⟨(p : Int), 0, 7, rfl, by omega, by omega, ?_⟩
      refine ⟨true, rfl, ?_⟩
      walk_at "gs"
      refine g_lcLF hh (hh.sqL (by walk_at "mem")) (fun i D H => Hd H (lstC D (natV (((keys8 S).take i).filter (rdyB S))) :: lstC a xs :: (Y ++ (lstC a2 xs2 :: (Y2 ++ R))))) (fun D H1 h1 => h1) (fun i D H _ h => h.sqL (by walk_at "mem")) ?_ ?_
      · rintro i x D H3 hx h3
        obtain ⟨k, m, tt, hk, hm, rfl, hrow⟩ := hY.at_ keys_some hx (show Hd H3 (Y ++ _) from Hd.sb (A := Y ++ (lstC D (natV (((keys8 S).take i).filter (rdyB S))) :: lstC a xs :: (lstC a2 xs2 :: (Y2 ++ R)))) h3 (by walk_at "sbx"))
        have hr3 := hrow H3 (lstC D (natV (((keys8 S).take i).filter (rdyB S))) :: lstC a xs :: (lstC a2 xs2 :: (Y2 ++ R))) (Hd.sb h3 (by walk_at "sbx"))
        have hrd : rdyB S k = m.ready := by unfold rdyB; rw [hm]; rfl
        have e1 : ((keys8 S).take (i + 1)).filter (rdyB S) = ((keys8 S).take i).filter (rdyB S) ++ [k].filter (rdyB S) := by rw [tk_succ hk, List.filter_append]
        have hfl : (((keys8 S).take i).filter (rdyB S)).length ≤ 8 := Nat.le_trans (List.length_filter_le _ _) (Nat.le_trans (List.length_take_le' ..) hkl)
        have hnl := natV_len (((keys8 S).take i).filter (rdyB S))
        clear hh
        walk_at "gs"
        rw [e1]
        cases hmr : m.ready with
        | true =>
          rw [show [k].filter (rdyB S) = [k] from List.filter_cons_of_pos (hrd.trans hmr), show natV (((keys8 S).take i).filter (rdyB S) ++ [k]) = natV (((keys8 S).take i).filter (rdyB S)) ++ [V.int (k : Int)] from List.map_append]
          walk_at "gs"
          rename_i H4 h4
          exact h4
        | false =>
          rw [show [k].filter (rdyB S) = [] from List.filter_cons_of_neg (by rw [hrd.trans hmr]; decide), List.append_nil]
          walk_at "gs"
          exact h3
      · rintro D H3 h3
        rw [hxl, List.take_length] at h3
        refine w_nin (h3.sqL (by walk_at "mem")) rfl (natV_flat _) inV_nat ?_
        rw [decide_eq_true (show p ∈ (keys8 S).filter (rdyB S) from hp.1)]
        walk_at "gs"
        rename_i D2 H4 h4
        have h5 : Hd H4 (lstC D2 [] :: lstC a xs :: (Y ++ (lstC a2 xs2 :: (Y2 ++ R)))) := Hd.sb h4 (by walk_at "sbx")
        clear hh h3 h4
        refine l_list (h5.sqL (by walk_at "mem")) (fun i σ H => ∃ (ys : List V) (Yn : List Cell) (v3 v5 : Option V), σ = [some (.ref a), some (.int (p : Int)), some (.ref a2), v3, some (.ref D2), v5] ∧ i ≤ 8 ∧ ys.length = i ∧ RowsIn K (pickS S p) ((keys8 S).take i) ys Yn ∧ Hd H (lstC D2 ys :: (Yn ++ (lstC a xs :: (Y ++ (lstC a2 xs2 :: (Y2 ++ R))))))) ⟨[], [], _, _, rfl, by omega, rfl, fun _ _ => .nil, h5⟩ (fun i σ H _ h => by obtain ⟨_, _, _, _, _, _, _, _, h⟩ := h; exact h.sqL (by walk_at "mem")) ?_ ?_
        · rintro i x σ H3 hx ⟨ys, Yn, v3, v5, rfl, hi8, hyl, hR, h3⟩
          obtain ⟨k, m, tt, hk, hm, rfl, hrow⟩ := hY.at_ keys_some hx (show Hd H3 (Y ++ _) from Hd.sb (A := Y ++ (lstC D2 ys :: (Yn ++ ( lstC a xs :: (lstC a2 xs2 :: (Y2 ++ R)))))) h3 (by walk_at "sbx"))
          have hr3 := hrow H3 (lstC D2 ys :: (Yn ++ ( lstC a xs :: (lstC a2 xs2 :: (Y2 ++ R))))) (Hd.sb h3 (by walk_at "sbx"))
          have hk8 := (keysS_mem.mp (List.mem_of_getElem? hk)).1
          have hi : i < (keys8 S).length := (List.getElem?_eq_some_iff.mp hk).1
          have hS' := pick_row hG hp hk8 hm
          clear h5
          walk_at "gs"
          refine .inr ⟨_, rfl, ?_⟩
          walk_at "gs"
          refine w_ite (fun e => ?_) (fun e => ?_)
          · have e : k = p := by omega
            have hage : (0 : Int) = ((if k = p then 0 else if m.ready = true then m.age + 1 else 0 : Nat) : Int) := by rw [if_pos e]; rfl
            walk_at "gs"
            refine g_slT (ys := [.int (k : Int), .int m.base, .int m.lent, .bl m.ready]) h3 hr3 (by unfold HT.sIx; simp) (by rfl) fun q1 H5 h5 => ?_
            walk_at "gs"
            rename_i q2 H6 h6
            refine g_catT (xs := [.int (k : Int), .int m.base, .int m.lent, .bl m.ready]) (ys := [.int 0]) h6 (h6.sqT (by walk_at "mem")) (h6.sqT (by walk_at "mem")) (by simp) (by simp) (show 4 + 1 ≤ sizeLine by decide) fun tn H7 h7 => ?_
            walk_at "gs"
            rename_i H8 h8
            have h8 : Hd H8 (lstC D2 (ys ++ [.ref tn]) :: tupC tn ([.int (k : Int), .int m.base, .int m.lent, .bl m.ready] ++ [.int 0]) :: tupC q2 [.int 0] :: tupC q1 [.int (k : Int), .int m.base, .int m.lent, .bl m.ready] :: (Yn ++ (lstC a xs :: (Y ++ (lstC a2 xs2 :: (Y2 ++ R)))))) := h8
            rw [hage] at h8
            exact ⟨ys ++ [.ref tn], tupC tn (rowV k { m with age := if k = p then 0 else if m.ready = true then m.age + 1 else 0 }) :: Yn, _, _, rfl, by omega, by rw [List.length_append, hyl]; rfl, by rw [tk_succ hk]; exact RowsIn.snoc (Y2 := tupC tn (rowV k { m with age := if k = p then 0 else if m.ready = true then m.age + 1 else 0 }) :: Yn) hR (fun _ h => h.tail) hS' fun H hh => dn_new hh (List.mem_cons_self ..), Hd.sb (A := lstC D2 (ys ++ [.ref tn]) :: tupC tn (rowV k { m with age := if k = p then 0 else if m.ready = true then m.age + 1 else 0 }) :: (Yn ++ (lstC a xs :: (Y ++ (lstC a2 xs2 :: (Y2 ++ R)))))) (show Hd H8 (lstC D2 (ys ++ [.ref tn]) :: tupC tn (rowV k { m with age := if k = p then 0 else if m.ready = true then m.age + 1 else 0 }) :: _) from h8) (by walk_at "sbx")⟩
          · have e : ¬ k = p := by omega
            have hage : ((m.age : Int) + 1) * (if m.ready = true then 1 else 0) = ((if k = p then 0 else if m.ready = true then m.age + 1 else 0 : Nat) : Int) := by
              rw [if_neg e]
              cases m.ready with
              | true => rw [if_pos rfl, if_pos rfl]; omega
              | false => rw [if_neg (by decide), if_neg (by decide)]; omega
            walk_at "gs"
            refine g_slT (ys := [.int (k : Int), .int m.base, .int m.lent, .bl m.ready]) h3 hr3 (by unfold HT.sIx; simp) (by rfl) fun q1 H5 h5 => ?_
            walk_at "gs"
            rename_i q2 H6 h6
            refine g_catT (xs := [.int (k : Int), .int m.base, .int m.lent, .bl m.ready]) (ys := [.int (((m.age : Int) + 1) * (if m.ready = true then 1 else 0))]) h6 (h6.sqT (by walk_at "mem")) (h6.sqT (by walk_at "mem")) (by simp) (by simp) (show 4 + 1 ≤ sizeLine by decide) fun tn H7 h7 => ?_
            walk_at "gs"
            rename_i H8 h8
            have h8 : Hd H8 (lstC D2 (ys ++ [.ref tn]) :: tupC tn ([.int (k : Int), .int m.base, .int m.lent, .bl m.ready] ++ [.int (((m.age : Int) + 1) * (if m.ready = true then 1 else 0))]) :: tupC q2 [.int (((m.age : Int) + 1) * (if m.ready = true then 1 else 0))] :: tupC q1 [.int (k : Int), .int m.base, .int m.lent, .bl m.ready] :: (Yn ++ (lstC a xs :: (Y ++ (lstC a2 xs2 :: (Y2 ++ R)))))) := h8
            rw [hage] at h8
            exact ⟨ys ++ [.ref tn], tupC tn (rowV k { m with age := if k = p then 0 else if m.ready = true then m.age + 1 else 0 }) :: Yn, _, _, rfl, by omega, by rw [List.length_append, hyl]; rfl, by rw [tk_succ hk]; exact RowsIn.snoc (Y2 := tupC tn (rowV k { m with age := if k = p then 0 else if m.ready = true then m.age + 1 else 0 }) :: Yn) hR (fun _ h => h.tail) hS' fun H hh => dn_new hh (List.mem_cons_self ..), Hd.sb (A := lstC D2 (ys ++ [.ref tn]) :: tupC tn (rowV k { m with age := if k = p then 0 else if m.ready = true then m.age + 1 else 0 }) :: (Yn ++ (lstC a xs :: (Y ++ (lstC a2 xs2 :: (Y2 ++ R)))))) (show Hd H8 (lstC D2 (ys ++ [.ref tn]) :: tupC tn (rowV k { m with age := if k = p then 0 else if m.ready = true then m.age + 1 else 0 }) :: _) from h8) (by walk_at "sbx")⟩
        · rintro σ H3 ⟨ys, Yn, v3, v5, rfl, hi8, hyl, hR, h3⟩
          rw [hxl, List.take_length, ← keys_pick (p := p)] at hR
          walk_at "gs"
          refine g_alike (n := 2) (dn_tab hR h3 (by walk_at "mem") (by omega) (Hd.sb h3 (by walk_at "sbx"))) (dn_tab hY2 h3 (by walk_at "mem") (by omega) (Hd.sb h3 (by walk_at "sbx"))) ?_
          exact q _ (Hd.sb h3 (by walk_at "sbx"))
    · exact absurd rfl e
end
end K23
set_option Elab.async false
set_option linter.all false
set_option maxRecDepth 100000
set_option maxHeartbeats 4000000
namespace K23
open PySem PySem.Spec PyProof.Rows L2 Wk
local macro_rules | `(tactic| walk_at "u1") => `(tactic| fail "no more")
local macro_rules | `(tactic| walk_at "pos") => `(tactic| first | assumption | omega | decide | (simp only [Int.ofNat_eq_natCast] at *; omega))
local macro_rules | `(tactic| walk_at "sz") => `(tactic| first
  | (simp only [List.length_cons, List.length_nil]; decide)
  | exact Evl.sz_of (by omega)
  | exact Evl.sz_lt (by omega)
  | exact Evl.sz_of (by simp only [List.length_map, List.length_append, List.length_cons, List.length_nil, List.length_replicate]; omega)
  | exact Evl.sz_lt (by simp only [List.length_map, List.length_append, List.length_cons, List.length_nil, List.length_replicate]; omega))
local macro_rules | `(tactic| walk_at "cond") => `(tactic| first
  | exact Or.inr ⟨by decide, by decide⟩
  | (show (0 : Int) < _; first | decide | assumption | omega)
  | exact Or.inl ⟨by omega, by omega⟩
  | exact Or.inr ⟨by omega, by omega⟩
  | exact ⟨by decide, by decide, by decide⟩
  | exact log2_lt (by omega) (by omega)
  | exact ⟨by omega, by omega⟩)
local macro_rules | `(tactic| walk_at "ty") => `(tactic| first
  | exact ty_int | exact ty_bl | exact ty_str | exact ty_non
  | exact ty_L (by assumption) | exact ty_T (by assumption)
  | exact ty_L (SqL.of (by assumption)) | exact ty_T (SqT.of (by assumption)))
local macro_rules | `(tactic| walk_at "kit") => `(tactic| first
  | exact k_ii | exact k_ib | exact k_is | exact k_il | exact k_it
  | exact k_bb | exact k_bi | exact k_bs | exact k_bl | exact k_bt
  | exact k_ss | exact k_sb | exact k_si | exact k_sl | exact k_st
  | exact k_ll | exact k_lb | exact k_li | exact k_ls | exact k_lt
  | exact k_tt | exact k_tb | exact k_ti | exact k_ts | exact k_tl
  | exact k_nn | exact k_ni | exact k_ns | exact k_nl | exact k_nt)
local macro_rules | `(tactic| walk_at "s1") => `(tactic| first
  | with_reducible refine w_seq ?_
  | with_reducible refine w_set ?_
  | with_reducible refine w_op ?_
  | ((with_reducible refine' w_var ?h1 ?_); (case h1 => rfl))
  | with_reducible refine w_c ?_
  | with_reducible refine w_cb ?_
  | with_reducible refine w_cons ?_
  | with_reducible refine w_nil ?_
  | with_reducible refine w_I0 ?_
  | ((with_reducible refine' w_I ?c1 ?_); case c1 => walk_at "cond")
  | with_reducible refine w_ret ?_
  | with_reducible refine w_next ?_
  | with_reducible refine w_ifS ?_
  | with_reducible refine w_test ?_
  | with_reducible refine w_tB ?_
  | with_reducible refine w_k ?_
  | with_reducible refine w_eqI ?_
  | with_reducible refine w_neI ?_
  | with_reducible refine w_eqS ?_
  | with_reducible refine w_neS ?_
  | with_reducible refine w_and ?_
  | with_reducible refine w_or ?_
  | with_reducible refine w_not ?_
  | with_reducible refine w_andV ?_
  | with_reducible refine w_orV ?_
  | with_reducible refine w_notV ?_
  | with_reducible refine w_ifE ?_
  | with_reducible refine w_true ?_
  | with_reducible refine w_false ?_
  | with_reducible refine w_ntrue ?_
  | with_reducible refine w_nfalse ?_
  | with_reducible refine w_call ?_
  | with_reducible refine c_int ?_
  | with_reducible refine c_abs ?_
  | with_reducible refine c_max ?_
  | with_reducible refine c_min ?_
  | with_reducible refine w_drop ?_
  | with_reducible refine w_sfld ?_
  | with_reducible refine w_meth ?_
  | with_reducible refine w_make ?_
  | with_reducible refine w_prop ?_
  | with_reducible refine w_callK ?_
  | with_reducible refine w_callN ?_
  | with_reducible refine w_star ?_
  | with_reducible refine w_gcons ?_
  | with_reducible refine w_gname ?_
  | with_reducible refine w_gnil ?_
  | with_reducible refine w_retN ?_
  | with_reducible refine w_tup ?_
  | with_reducible refine w_lst ?_
  | with_reducible refine w_fld ?_
  | with_reducible refine w_bm ?_
  | with_reducible refine w_bm0 ?_
  | with_reducible refine w_forL ?_
  | with_reducible refine w_forT ?_
  | with_reducible refine w_forS ?_
  | with_reducible refine w_forR ?_
  | with_reducible refine w_lcR ?_
  | with_reducible refine w_lcL ?_
  | with_reducible refine w_lcT ?_
  | with_reducible refine w_isN ?_
  | with_reducible refine w_notN ?_
  | with_reducible refine w_asg ?_
  | with_reducible refine w_gsub ?_
  | ((with_reducible refine' w_aug ?h1 ?_); (case h1 => rfl))
  | with_reducible refine w_augS ?_
  | with_reducible refine w_ipI ?_
  | with_reducible refine w_un ?_
  | with_reducible refine w_U ?_
  | ((with_reducible refine' w_iteF ?f1 ?_); case f1 => (first | (intro h; cases h; done) | decide))
  | ((with_reducible refine' w_iteT ?f1 ?_); case f1 => rfl)
  | ((with_reducible refine' w_iteNF ?f1 ?_); case f1 => rfl)
  | ((with_reducible refine' w_iteNT ?f1 ?_); case f1 => (first | (intro h; cases h; done) | decide))
  | ((with_reducible refine' c_isi ?t1 ?k1 ?_); (case t1 => walk_at "ty"); (case k1 => walk_at "kit"))
  | ((with_reducible refine' w_eq ?e1 ?_); case e1 => rfl)
  | ((with_reducible refine' w_ne ?e1 ?_); case e1 => rfl)
  | walk_at "u1")
local macro_rules | `(tactic| walk_at "s") => `(tactic| repeat walk_at "s1")
local macro_rules | `(tactic| walk_at "mem") => `(tactic| first | with_reducible exact List.mem_cons_self .. | ((with_reducible refine' List.mem_cons_of_mem _ ?q); (case q => walk_at "mem")) | assumption | ((with_reducible refine' List.mem_append_right _ ?q); (case q => walk_at "mem")) | (exact List.mem_append_left _ (by assumption)))
local macro_rules | `(tactic| walk_at "pk") => `(tactic| first | with_reducible exact Pk.here | ((with_reducible refine' Pk.there ?q); (case q => walk_at "pk")) | ((with_reducible refine' Pk.app ?q); (case q => walk_at "pk")))
local macro_rules | `(tactic| walk_at "pkb") => `(tactic| first | with_reducible exact PkB.here | ((with_reducible refine' PkB.there ?q); (case q => walk_at "pkb")) | ((with_reducible refine' PkB.app ?q); (case q => walk_at "pkb")))
local macro_rules | `(tactic| walk_at "spl") => `(tactic| first | with_reducible exact Spl.nil | ((with_reducible refine' Spl.cons ?h ?t); (case h => walk_at "pk"); (case t => walk_at "spl")) | ((with_reducible refine' Spl.blk ?h ?t); (case h => walk_at "pkb"); (case t => walk_at "spl")))
local macro_rules | `(tactic| walk_at "sbx") => `(tactic| first | with_reducible exact Sb.refl | with_reducible exact Sb.nil | with_reducible exact Sb.left | ((with_reducible refine' Sb.cons ?h ?t); (case h => walk_at "pk"); (case t => walk_at "sbx")) | ((with_reducible refine' Sb.blk ?h ?t); (case h => walk_at "pkb"); (case t => walk_at "sbx")) | ((with_reducible refine' Sb.drop ?q); (case q => walk_at "sbx")) | ((with_reducible refine' Sb.right ?q); (case q => walk_at "sbx")))
local macro_rules | `(tactic| walk_at "hd") => `(tactic| first | assumption | exact Hd.sb (by assumption) (by walk_at "sbx"))
local macro_rules | `(tactic| walk_at "sq") => `(tactic| first
  | assumption
  | exact Hd.sqL (by assumption) (by walk_at "mem")
  | exact Hd.sqT (by assumption) (by walk_at "mem")
  | exact Hd.sqF (by assumption) (by walk_at "mem")
  | (refine .inl ?_; walk_at "sq")
  | (refine .inr ?_; walk_at "sq"))
local macro_rules | `(tactic| walk_at "at") => `(tactic| first | rfl | assumption | exact atI_nat (by assumption))
local macro_rules | `(tactic| walk_at "dn1") => `(tactic| first
  | exact Dn.int | exact Dn.str | exact Dn.non | exact Dn.bl | assumption
  | ((refine' Dn.tp ?a1 ?m1 ?l1 ?p1); (case a1 => assumption); (case m1 => walk_at "mem"); (case l1 => (simp only [List.length_cons, List.length_nil]; omega)); (case p1 => walk_at "dns"))
  | ((refine' Dn.lt ?a1 ?m1 ?l1 ?p1); (case a1 => assumption); (case m1 => walk_at "mem"); (case l1 => (simp only [List.length_cons, List.length_nil]; omega)); (case p1 => walk_at "dns")))
local macro_rules | `(tactic| walk_at "dns") => `(tactic| first | exact Paired.nil | exact Dn.ints | ((refine' Paired.cons ?a1 ?b1); (case a1 => walk_at "dn1"); (case b1 => walk_at "dns")))
local macro_rules | `(tactic| walk_at "g1") => `(tactic| first
  | ((with_reducible refine' g_ixI ?h1 ?h2 ?h3 ?_); (case h1 => assumption); (case h2 => walk_at "mem"); (case h3 => omega); intro z hz)
  | ((with_reducible refine' g_ixIT ?h1 ?h2 ?h3 ?_); (case h1 => assumption); (case h2 => walk_at "mem"); (case h3 => omega); intro z hz)
  | ((with_reducible refine' g_setI ?h1 ?h2 ?h3 ?_); (case h1 => assumption); (case h2 => walk_at "pk"); (case h3 => omega); intro H2 hh2)
  | ((with_reducible refine' w_ixL ?h1 ?h2 ?_); (case h1 => walk_at "sq"); (case h2 => walk_at "at"))
  | ((with_reducible refine' w_ixT ?h1 ?h2 ?_); (case h1 => walk_at "sq"); (case h2 => walk_at "at"))
  | ((with_reducible refine' w_ixAny ?h1 ?h2 ?_); (case h1 => walk_at "sq"); (case h2 => walk_at "at"))
  | ((with_reducible refine' c_lenA ?h1 ?_); (case h1 => walk_at "sq"))
  | ((with_reducible refine' c_isi ?t1 ?k1 ?_); (case t1 => first | exact ty_T (by walk_at "sq") | exact ty_L (by walk_at "sq")); (case k1 => walk_at "kit"))
  | ((with_reducible refine' g_lst ?h1 ?h2 ?_); (case h1 => assumption); (case h2 => walk_at "sz"); intro p H2 hh2)
  | ((with_reducible refine' g_tup ?h1 ?h2 ?_); (case h1 => assumption); (case h2 => walk_at "sz"); intro p H2 hh2)
  | ((with_reducible refine' g_dict ?h1 ?_); (case h1 => assumption); intro p H2 hh2)
  | ((with_reducible refine' g_listL ?h1 ?h2 ?_); (case h1 => assumption); (case h2 => walk_at "sq"); intro p H2 hh2)
  | ((with_reducible refine' g_listT ?h1 ?h2 ?_); (case h1 => assumption); (case h2 => walk_at "sq"); intro p H2 hh2)
  | ((with_reducible refine' g_tupL ?h1 ?h2 ?_); (case h1 => assumption); (case h2 => walk_at "sq"); intro p H2 hh2)
  | ((with_reducible refine' g_set ?h1 ?h2 ?h3 ?_); (case h1 => assumption); (case h2 => walk_at "pk"); (case h3 => first | rfl | assumption | exact Evl.ixN_nat (by first | omega | (simp only [List.length_cons, List.length_nil]; omega))); intro H2 hh2)
  | ((with_reducible refine' g_kbm ?h1 ?h2 ?_); (case h1 => assumption); (case h2 => walk_at "mem"))
  | ((with_reducible refine' g_kbm0 ?h1 ?h2 ?_); (case h1 => assumption); (case h2 => walk_at "mem"))
  | ((with_reducible refine' g_app ?h1 ?h2 ?h3 ?_); (case h1 => assumption); (case h2 => walk_at "pk"); (case h3 => walk_at "sz"); intro H2 hh2)
  | ((with_reducible refine' g_kapp ?h1 ?h2 ?h3 ?_); (case h1 => assumption); (case h2 => walk_at "pk"); (case h3 => walk_at "sz"); intro H2 hh2)
  | ((with_reducible refine' g_fld ?h1 ?h2 ?h3 ?h4 ?h5 ?_); (case h1 => assumption); (case h2 => walk_at "mem"); (case h3 => assumption); (case h4 => assumption); (case h5 => rfl))
  | ((with_reducible refine' g_sfld ?h1 ?h2 ?h3 ?h4 ?h5 ?_); (case h1 => assumption); (case h2 => walk_at "pk"); (case h3 => assumption); (case h4 => assumption); (case h5 => decide); intro H2 hh2)
  | ((with_reducible refine' g_meth ?h1 ?h2 ?h3 ?_); (case h1 => assumption); (case h2 => walk_at "mem"); (case h3 => rfl))
  | ((with_reducible refine' g_prop ?h1 ?h2 ?_); (case h1 => assumption); (case h2 => walk_at "mem"))
  | ((with_reducible refine' g_make ?h1 ?_); (case h1 => assumption); intro x H2 hh2)
  | ((with_reducible refine' g_cat ?h1 ?h2 ?h3 ?h4 ?_); (case h1 => assumption); (case h2 => walk_at "mem"); (case h3 => walk_at "mem"); (case h4 => walk_at "sz"); intro p H2 hh2)
  | ((with_reducible refine' g_inT ?h1 ?h2 ?h3 ?h4 ?h5 ?_); (case h1 => assumption); (case h2 => walk_at "mem"); (case h3 => rfl); (case h4 => rfl); (case h5 => rfl)))
local macro_rules | `(tactic| walk_at "gs") => `(tactic| repeat first | walk_at "s1" | walk_at "g1")
local macro_rules | `(tactic| walk_at "ite") => `(tactic| first
  | ((with_reducible refine' w_iteT ?h1 ?_); (case h1 => omega))
  | ((with_reducible refine' w_iteF ?h1 ?_); (case h1 => omega))
  | (with_reducible refine w_ite ?_ ?_ <;> intro hq)
  | ((with_reducible refine' w_iteNT ?h1 ?_); (case h1 => omega))
  | ((with_reducible refine' w_iteNF ?h1 ?_); (case h1 => omega))
  | (with_reducible refine w_iteN ?_ ?_ <;> intro hq))
local macro_rules | `(tactic| walk_at "go") => `(tactic| repeat' first | walk_at "s1" | walk_at "g1" | walk_at "ite")
section
variable {P : Program} {w : World} {K : PySem.W.Frag} {mg : Str → Option Value} {base : Heap} {aREG aOPS : Addr}
/-! ### a list is copied: the new list itself -/
def sp_copyL (K : PySem.W.Frag) (m : Nat) : Sp := fun vs H Q _ => ∃ (a : Addr) (xs : List V) (ds : List PyData), vs = [.ref a] ∧ SqL K H a xs ∧ xs.length ≤ 100000 ∧ Paired (Dn K [] H m) xs ds ∧
  ∀ D acc H', H D = none → H' D = some (.lst acc) → Upt [] H H' → (∀ S, Trk S H → Paired (Dn K (D :: S) H' m) acc ds) → Q (.ref D) H'
theorem c_copyL (m : Nat) (T : Txt K mg aREG aOPS) (d : DefAt K mg "_law_copy" s__law_copy) (c__law_copy : C8.Cal P w K mg base (m + 1) "_law_copy" (sp_copy K (m + 1)) []) : C8.Cal P w K mg base (m + 2) "_law_copy" (sp_copyL K m) [] := by
  refine mk d sc__law_copy (fun _ _ _ _ _ _ us hl => match us, hl with | [_], _ => rfl) (fun vs H Q E h => ?_) (fun f cdv A outer s H vs Q E hr h => ?_)
  · obtain ⟨a, xs, ds, rfl, _⟩ := h
    rfl
  · obtain ⟨a, xs, ds, rfl, hx, hl, p, k⟩ := h
    refine ⟨_, (pss_cons (ps_if (pt_val (pe_callB call_isi (by rfl) T.b_isinstance (by decide +kernel) (pa_cons (pv 0) (pa_cons (pe_bltn (v := .ty "list") (by rfl) T.b_list (by decide +kernel) rfl) pa_nil))))
    (pss_one (ps_ret (pe_lc (own := [("x", 1)]) rfl sc__law_copy.nd (pi_list (pv 0)) (blkOk_by (own := [("x", 1)]) (N := nm__law_copy) (sc := defScope s__law_copy) (by decide +kernel)) (fun _ _ _ _ _ => (pg_name (i := 1) sc__law_copy.nd rfl (Or.inl rfl))) (fun _ _ _ _ _ => pts_nil) (fun _ _ _ _ _ => (C8.pe_c c__law_copy hr (by first | decide | omega) rfl (pa_cons (pv 1) pa_nil))))))
    pss_nil)
  (pss_cons (ps_if (pt_val (pe_callB call_isi (by rfl) T.b_isinstance (by decide +kernel) (pa_cons (pv 0) (pa_cons (pe_bltn (v := .ty "tuple") (by rfl) T.b_tuple (by decide +kernel) rfl) pa_nil))))
    (pss_one (ps_ret (pe_callTy Wk.b_tuple (by rfl) T.b_tuple (by decide +kernel) (pa_cons (pe_lc (own := [("x", 1)]) rfl sc__law_copy.nd (pi_tup (pv 0)) (blkOk_by (own := [("x", 1)]) (N := nm__law_copy) (sc := defScope s__law_copy) (by decide +kernel)) (fun _ _ _ _ _ => (pg_name (i := 1) sc__law_copy.nd rfl (Or.inl rfl))) (fun _ _ _ _ _ => pts_nil) (fun _ _ _ _ _ => (C8.pe_c c__law_copy hr (by first | decide | omega) rfl (pa_cons (pv 1) pa_nil)))) pa_nil))))
    pss_nil)
  (pss_one (ps_ret (pv 0))))), ?_⟩
    have el := p.length
    walk_at "s"
    refine lc_L hx (fun i D H2 => H D = none ∧ Upt [] H H2 ∧ ∃ acc, H2 D = some (.lst acc) ∧ acc.length = i ∧ ∀ S, Trk S H → Paired (Dn K (D :: S) H2 m) acc (ds.take i)) (fun D H1 n1 => ⟨n1.no, n1.keep, [], n1.at_, rfl, fun _ _ => .nil⟩) (fun i D H2 _ ⟨_, u, _⟩ => hx.upt u) (fun i x D H2 hi hp => ?_) (fun D H2 hp => ?_)
    · obtain ⟨hD, u, acc, hacc, hn, hp⟩ := hp
      obtain ⟨d0, hd0, z⟩ := paired_at p hi
      have hil := (List.getElem?_eq_some_iff.mp hi).1
      walk_at "s"
      refine ⟨x, d0, rfl, Dn.upt u (by simp) z, fun v' H4 u4 h4 => ?_⟩
      refine w_kapp (u4.at0 hacc) (Evl.sz_lt (by omega)) fun H5 g5 => ⟨hD, fun b o _ ho => ?_, acc ++ [v'], g5.at_, by simp [hn], fun S hS => ?_⟩
      · exact g5.keep.at1 (fun z => by subst z; rw [hD] at ho; cases ho) (u4.at0 (u.at0 ho))
      · rw [take_succ' hd0]
        have u5 : Upt [D] H4 H5 := g5.keep
        refine Paired.snoc (Paired.mapP (hp S hS) fun x y q => Dn.upt u5 (by simp) (Dn.upt u4 (by simp) q)) ?_
        refine Dn.upt u5 (by simp) (h4 (D :: S) fun b hb => ?_)
        rcases List.mem_cons.mp hb with z | z
        · subst z; exact ⟨_, hacc⟩
        · exact hS.upt u b z
    · obtain ⟨hD, u, acc, hacc, hn, hpp⟩ := hp
      refine k D acc H2 hD hacc u fun S hS => ?_
      have q := hpp S hS
      rwa [el, List.take_length] at q
theorem paired_chunk {m : Nat} {S : List Addr} {H : Hp} {xs : List V} {ds : List PyData} (p : Paired (Dn K S H m) xs ds) : ∃ Z : List Cell, Hd H Z ∧ (∀ c ∈ Z, c.1 ∉ S) ∧ ∀ H, Hd H Z → Paired (Dn K [] H m) xs ds := by
  obtain ⟨A, h1, h2⟩ := paired_addr (fun v d => Dn.addr) p
  obtain ⟨B, h3, h4⟩ := same_nodup A
  refine ⟨B.map fun a => (a, fun o => H a = some o), ⟨?_, fun c hc => ?_⟩, fun c hc => ?_, fun H' hh => h2 H' fun b hb o ho => ?_⟩
  · rw [List.map_map]
    exact (List.map_id B).symm ▸ h3
  · obtain ⟨a, ha, rfl⟩ := List.mem_map.mp hc
    obtain ⟨o, ho⟩ := (h1 a ((h4 a).mpr ha)).2
    exact ⟨o, ho, ho⟩
  · obtain ⟨a, ha, rfl⟩ := List.mem_map.mp hc
    exact (h1 a ((h4 a).mpr ha)).1
  · obtain ⟨u, e1, e2⟩ := hh.at_ _ (List.mem_map.mpr ⟨b, (h4 b).mp hb, rfl⟩)
    have e3 : H b = some u := e2
    rw [ho] at e3
    cases e3
    exact e1
theorem g_copyL {m : Nat} {a : Addr} {xs : List V} {ds : List PyData} {H : Hp} {L : List Cell} {Q : VK} {E : XK} (hh : Hd H L) (h : SqL K H a xs) (hl : xs.length ≤ 100000) (p : Paired (Dn K [] H m) xs ds)
    (q : ∀ D acc Z H', (∀ H, Hd H Z → Paired (Dn K [] H m) acc ds) → Hd H' (lstC D acc :: (Z ++ L)) → Q (.ref D) H') : sp_copyL K m [.ref a] H Q E :=
  ⟨a, xs, ds, rfl, h, hl, p, fun D acc H' n0 e u hd => by
    obtain ⟨Z, hz, hs, zz⟩ := paired_chunk (hd (L.map Prod.fst) (fun b hb => by
      obtain ⟨c, hc, rfl⟩ := List.mem_map.mp hb
      obtain ⟨o, ho, _⟩ := hh.at_ c hc
      exact ⟨o, ho⟩))
    have h1 := Hd.join hz (hh.upt0 u) fun c hc => fun z => hs c hc (List.mem_cons_of_mem _ z)
    exact q D acc Z H' zz (hd_cons1 (c := lstC D acc) h1 e rfl fun d hd z => by
      rcases List.mem_append.mp hd with hd | hd
      · exact hs d hd (by rw [show d.1 = D from z]; exact List.mem_cons_self ..)
      · obtain ⟨o, ho, _⟩ := hh.at_ d hd
        rw [show d.1 = D from z, n0] at ho
        cases ho)⟩
end
end K23
set_option Elab.async false
set_option linter.all false
set_option maxRecDepth 100000
set_option maxHeartbeats 4000000
namespace K23
open PySem PySem.Spec PyProof.Rows L2 Wk
local macro_rules | `(tactic| walk_at "u1") => `(tactic| fail "no more")
local macro_rules | `(tactic| walk_at "pos") => `(tactic| first | assumption | omega | decide | (simp only [Int.ofNat_eq_natCast] at *; omega))
local macro_rules | `(tactic| walk_at "sz") => `(tactic| first
  | (simp only [List.length_cons, List.length_nil]; decide)
  | exact Evl.sz_of (by omega)
  | exact Evl.sz_lt (by omega)
  | exact Evl.sz_of (by simp only [List.length_map, List.length_append, List.length_cons, List.length_nil, List.length_replicate]; omega)
  | exact Evl.sz_lt (by simp only [List.length_map, List.length_append, List.length_cons, List.length_nil, List.length_replicate]; omega))
local macro_rules | `(tactic| walk_at "cond") => `(tactic| first
  | exact Or.inr ⟨by decide, by decide⟩
  | (show (0 : Int) < _; first | decide | assumption | omega)
  | exact Or.inl ⟨by omega, by omega⟩
  | exact Or.inr ⟨by omega, by omega⟩
  | exact ⟨by decide, by decide, by decide⟩
  | exact log2_lt (by omega) (by omega)
  | exact ⟨by omega, by omega⟩)
local macro_rules | `(tactic| walk_at "ty") => `(tactic| first
  | exact ty_int | exact ty_bl | exact ty_str | exact ty_non
  | exact ty_L (by assumption) | exact ty_T (by assumption)
  | exact ty_L (SqL.of (by assumption)) | exact ty_T (SqT.of (by assumption)))
local macro_rules | `(tactic| walk_at "kit") => `(tactic| first
  | exact k_ii | exact k_ib | exact k_is | exact k_il | exact k_it
  | exact k_bb | exact k_bi | exact k_bs | exact k_bl | exact k_bt
  | exact k_ss | exact k_sb | exact k_si | exact k_sl | exact k_st
  | exact k_ll | exact k_lb | exact k_li | exact k_ls | exact k_lt
  | exact k_tt | exact k_tb | exact k_ti | exact k_ts | exact k_tl
  | exact k_nn | exact k_ni | exact k_ns | exact k_nl | exact k_nt)
local macro_rules | `(tactic| walk_at "s1") => `(tactic| first
  | with_reducible refine w_seq ?_
  | with_reducible refine w_set ?_
  | with_reducible refine w_op ?_
  | ((with_reducible refine' w_var ?h1 ?_); (case h1 => rfl))
  | with_reducible refine w_c ?_
  | with_reducible refine w_cb ?_
  | with_reducible refine w_cons ?_
  | with_reducible refine w_nil ?_
  | with_reducible refine w_I0 ?_
  | ((with_reducible refine' w_I ?c1 ?_); case c1 => walk_at "cond")
  | with_reducible refine w_ret ?_
  | with_reducible refine w_next ?_
  | with_reducible refine w_ifS ?_
  | with_reducible refine w_test ?_
  | with_reducible refine w_tB ?_
  | with_reducible refine w_k ?_
  | with_reducible refine w_eqI ?_
  | with_reducible refine w_neI ?_
  | with_reducible refine w_eqS ?_
  | with_reducible refine w_neS ?_
  | with_reducible refine w_and ?_
  | with_reducible refine w_or ?_
  | with_reducible refine w_not ?_
  | with_reducible refine w_andV ?_
  | with_reducible refine w_orV ?_
  | with_reducible refine w_notV ?_
  | with_reducible refine w_ifE ?_
  | with_reducible refine w_true ?_
  | with_reducible refine w_false ?_
  | with_reducible refine w_ntrue ?_
  | with_reducible refine w_nfalse ?_
  | with_reducible refine w_call ?_
  | with_reducible refine c_int ?_
  | with_reducible refine c_abs ?_
  | with_reducible refine c_max ?_
  | with_reducible refine c_min ?_
  | with_reducible refine w_drop ?_
  | with_reducible refine w_sfld ?_
  | with_reducible refine w_meth ?_
  | with_reducible refine w_make ?_
  | with_reducible refine w_prop ?_
  | with_reducible refine w_callK ?_
  | with_reducible refine w_callN ?_
  | with_reducible refine w_star ?_
  | with_reducible refine w_gcons ?_
  | with_reducible refine w_gname ?_
  | with_reducible refine w_gnil ?_
  | with_reducible refine w_retN ?_
  | with_reducible refine w_tup ?_
  | with_reducible refine w_lst ?_
  | with_reducible refine w_fld ?_
  | with_reducible refine w_bm ?_
  | with_reducible refine w_bm0 ?_
  | with_reducible refine w_forL ?_
  | with_reducible refine w_forT ?_
  | with_reducible refine w_forS ?_
  | with_reducible refine w_forR ?_
  | with_reducible refine w_lcR ?_
  | with_reducible refine w_lcL ?_
  | with_reducible refine w_lcT ?_
  | with_reducible refine w_isN ?_
  | with_reducible refine w_notN ?_
  | with_reducible refine w_asg ?_
  | with_reducible refine w_gsub ?_
  | ((with_reducible refine' w_aug ?h1 ?_); (case h1 => rfl))
  | with_reducible refine w_augS ?_
  | with_reducible refine w_ipI ?_
  | with_reducible refine w_un ?_
  | with_reducible refine w_U ?_
  | ((with_reducible refine' w_iteF ?f1 ?_); case f1 => (first | (intro h; cases h; done) | decide))
  | ((with_reducible refine' w_iteT ?f1 ?_); case f1 => rfl)
  | ((with_reducible refine' w_iteNF ?f1 ?_); case f1 => rfl)
  | ((with_reducible refine' w_iteNT ?f1 ?_); case f1 => (first | (intro h; cases h; done) | decide))
  | ((with_reducible refine' c_isi ?t1 ?k1 ?_); (case t1 => walk_at "ty"); (case k1 => walk_at "kit"))
  | ((with_reducible refine' w_eq ?e1 ?_); case e1 => rfl)
  | ((with_reducible refine' w_ne ?e1 ?_); case e1 => rfl)
  | walk_at "u1")
local macro_rules | `(tactic| walk_at "s") => `(tactic| repeat walk_at "s1")
local macro_rules | `(tactic| walk_at "mem") => `(tactic| first | with_reducible exact List.mem_cons_self .. | ((with_reducible refine' List.mem_cons_of_mem _ ?q); (case q => walk_at "mem")) | assumption | ((with_reducible refine' List.mem_append_right _ ?q); (case q => walk_at "mem")) | (exact List.mem_append_left _ (by assumption)))
local macro_rules | `(tactic| walk_at "pk") => `(tactic| first | with_reducible exact Pk.here | ((with_reducible refine' Pk.there ?q); (case q => walk_at "pk")) | ((with_reducible refine' Pk.app ?q); (case q => walk_at "pk")))
local macro_rules | `(tactic| walk_at "pkb") => `(tactic| first | with_reducible exact PkB.here | ((with_reducible refine' PkB.there ?q); (case q => walk_at "pkb")) | ((with_reducible refine' PkB.app ?q); (case q => walk_at "pkb")))
local macro_rules | `(tactic| walk_at "spl") => `(tactic| first | with_reducible exact Spl.nil | ((with_reducible refine' Spl.cons ?h ?t); (case h => walk_at "pk"); (case t => walk_at "spl")) | ((with_reducible refine' Spl.blk ?h ?t); (case h => walk_at "pkb"); (case t => walk_at "spl")))
local macro_rules | `(tactic| walk_at "sbx") => `(tactic| first | with_reducible exact Sb.refl | with_reducible exact Sb.nil | with_reducible exact Sb.left | ((with_reducible refine' Sb.cons ?h ?t); (case h => walk_at "pk"); (case t => walk_at "sbx")) | ((with_reducible refine' Sb.blk ?h ?t); (case h => walk_at "pkb"); (case t => walk_at "sbx")) | ((with_reducible refine' Sb.drop ?q); (case q => walk_at "sbx")) | ((with_reducible refine' Sb.right ?q); (case q => walk_at "sbx")))
local macro_rules | `(tactic| walk_at "hd") => `(tactic| first | assumption | exact Hd.sb (by assumption) (by walk_at "sbx"))
local macro_rules | `(tactic| walk_at "sq") => `(tactic| first
  | assumption
  | exact Hd.sqL (by assumption) (by walk_at "mem")
  | exact Hd.sqT (by assumption) (by walk_at "mem")
  | exact Hd.sqF (by assumption) (by walk_at "mem")
  | (refine .inl ?_; walk_at "sq")
  | (refine .inr ?_; walk_at "sq"))
local macro_rules | `(tactic| walk_at "at") => `(tactic| first | rfl | assumption | exact atI_nat (by assumption))
local macro_rules | `(tactic| walk_at "dn1") => `(tactic| first
  | exact Dn.int | exact Dn.str | exact Dn.non | exact Dn.bl | assumption
  | ((refine' Dn.tp ?a1 ?m1 ?l1 ?p1); (case a1 => assumption); (case m1 => walk_at "mem"); (case l1 => (simp only [List.length_cons, List.length_nil]; omega)); (case p1 => walk_at "dns"))
  | ((refine' Dn.lt ?a1 ?m1 ?l1 ?p1); (case a1 => assumption); (case m1 => walk_at "mem"); (case l1 => (simp only [List.length_cons, List.length_nil]; omega)); (case p1 => walk_at "dns")))
local macro_rules | `(tactic| walk_at "dns") => `(tactic| first | exact Paired.nil | exact Dn.ints | ((refine' Paired.cons ?a1 ?b1); (case a1 => walk_at "dn1"); (case b1 => walk_at "dns")))
local macro_rules | `(tactic| walk_at "g1") => `(tactic| first
  | ((with_reducible refine' g_ixI ?h1 ?h2 ?h3 ?_); (case h1 => assumption); (case h2 => walk_at "mem"); (case h3 => omega); intro z hz)
  | ((with_reducible refine' g_ixIT ?h1 ?h2 ?h3 ?_); (case h1 => assumption); (case h2 => walk_at "mem"); (case h3 => omega); intro z hz)
  | ((with_reducible refine' g_setI ?h1 ?h2 ?h3 ?_); (case h1 => assumption); (case h2 => walk_at "pk"); (case h3 => omega); intro H2 hh2)
  | ((with_reducible refine' w_ixL ?h1 ?h2 ?_); (case h1 => walk_at "sq"); (case h2 => walk_at "at"))
  | ((with_reducible refine' w_ixT ?h1 ?h2 ?_); (case h1 => walk_at "sq"); (case h2 => walk_at "at"))
  | ((with_reducible refine' w_ixAny ?h1 ?h2 ?_); (case h1 => walk_at "sq"); (case h2 => walk_at "at"))
  | ((with_reducible refine' c_lenA ?h1 ?_); (case h1 => walk_at "sq"))
  | ((with_reducible refine' c_isi ?t1 ?k1 ?_); (case t1 => first | exact ty_T (by walk_at "sq") | exact ty_L (by walk_at "sq")); (case k1 => walk_at "kit"))
  | ((with_reducible refine' g_lst ?h1 ?h2 ?_); (case h1 => assumption); (case h2 => walk_at "sz"); intro p H2 hh2)
  | ((with_reducible refine' g_tup ?h1 ?h2 ?_); (case h1 => assumption); (case h2 => walk_at "sz"); intro p H2 hh2)
  | ((with_reducible refine' g_dict ?h1 ?_); (case h1 => assumption); intro p H2 hh2)
  | ((with_reducible refine' g_listL ?h1 ?h2 ?_); (case h1 => assumption); (case h2 => walk_at "sq"); intro p H2 hh2)
  | ((with_reducible refine' g_listT ?h1 ?h2 ?_); (case h1 => assumption); (case h2 => walk_at "sq"); intro p H2 hh2)
  | ((with_reducible refine' g_tupL ?h1 ?h2 ?_); (case h1 => assumption); (case h2 => walk_at "sq"); intro p H2 hh2)
  | ((with_reducible refine' g_set ?h1 ?h2 ?h3 ?_); (case h1 => assumption); (case h2 => walk_at "pk"); (case h3 => first | rfl | assumption | exact Evl.ixN_nat (by first | omega | (simp only [List.length_cons, List.length_nil]; omega))); intro H2 hh2)
  | ((with_reducible refine' g_kbm ?h1 ?h2 ?_); (case h1 => assumption); (case h2 => walk_at "mem"))
  | ((with_reducible refine' g_kbm0 ?h1 ?h2 ?_); (case h1 => assumption); (case h2 => walk_at "mem"))
  | ((with_reducible refine' g_app ?h1 ?h2 ?h3 ?_); (case h1 => assumption); (case h2 => walk_at "pk"); (case h3 => walk_at "sz"); intro H2 hh2)
  | ((with_reducible refine' g_kapp ?h1 ?h2 ?h3 ?_); (case h1 => assumption); (case h2 => walk_at "pk"); (case h3 => walk_at "sz"); intro H2 hh2)
  | ((with_reducible refine' g_fld ?h1 ?h2 ?h3 ?h4 ?h5 ?_); (case h1 => assumption); (case h2 => walk_at "mem"); (case h3 => assumption); (case h4 => assumption); (case h5 => rfl))
  | ((with_reducible refine' g_sfld ?h1 ?h2 ?h3 ?h4 ?h5 ?_); (case h1 => assumption); (case h2 => walk_at "pk"); (case h3 => assumption); (case h4 => assumption); (case h5 => decide); intro H2 hh2)
  | ((with_reducible refine' g_meth ?h1 ?h2 ?h3 ?_); (case h1 => assumption); (case h2 => walk_at "mem"); (case h3 => rfl))
  | ((with_reducible refine' g_prop ?h1 ?h2 ?_); (case h1 => assumption); (case h2 => walk_at "mem"))
  | ((with_reducible refine' g_make ?h1 ?_); (case h1 => assumption); intro x H2 hh2)
  | ((with_reducible refine' g_cat ?h1 ?h2 ?h3 ?h4 ?_); (case h1 => assumption); (case h2 => walk_at "mem"); (case h3 => walk_at "mem"); (case h4 => walk_at "sz"); intro p H2 hh2)
  | ((with_reducible refine' g_inT ?h1 ?h2 ?h3 ?h4 ?h5 ?_); (case h1 => assumption); (case h2 => walk_at "mem"); (case h3 => rfl); (case h4 => rfl); (case h5 => rfl)))
local macro_rules | `(tactic| walk_at "gs") => `(tactic| repeat first | walk_at "s1" | walk_at "g1")
local macro_rules | `(tactic| walk_at "ite") => `(tactic| first
  | ((with_reducible refine' w_iteT ?h1 ?_); (case h1 => omega))
  | ((with_reducible refine' w_iteF ?h1 ?_); (case h1 => omega))
  | (with_reducible refine w_ite ?_ ?_ <;> intro hq)
  | ((with_reducible refine' w_iteNT ?h1 ?_); (case h1 => omega))
  | ((with_reducible refine' w_iteNF ?h1 ?_); (case h1 => omega))
  | (with_reducible refine w_iteN ?_ ?_ <;> intro hq))
local macro_rules | `(tactic| walk_at "go") => `(tactic| repeat' first | walk_at "s1" | walk_at "g1" | walk_at "ite")
local macro_rules | `(tactic| walk_at "g1") => `(tactic| first
  | ((with_reducible refine' g_take1 ?h1 ?h2 ?h3 ?h4 ?_); (case h1 => assumption); (case h2 => walk_at "spl"); (case h3 => omega); (case h4 => omega); intro k H2 hk1 hh2)
  | ((with_reducible refine' g_take ?h1 ?h2 ?h4 ?_); (case h1 => assumption); (case h2 => walk_at "spl"); (case h4 => omega); intro k H2 hk1 hh2)
  | ((with_reducible refine' g_betweenN ?h1 ?h2 ?h5 ?h3 ?h4 ?_); (case h1 => assumption); (case h2 => walk_at "spl"); (case h5 => omega); (case h3 => omega); (case h4 => omega); intro k H2 hk1 hk2 hh2)
  | ((with_reducible refine' g_between ?h1 ?h2 ?h3 ?h4 ?_); (case h1 => assumption); (case h2 => walk_at "spl"); (case h3 => omega); (case h4 => omega); intro k H2 hk1 hk2 hh2)
  | ((with_reducible refine' g_size ?h1 ?h2 ?h3 ?h4 ?_); (case h1 => assumption); (case h2 => walk_at "spl"); (case h3 => omega); (case h4 => omega); intro k H2 hk1 hh2)
  | ((with_reducible refine' g_word ?h1 ?h2 ?_); (case h1 => assumption); (case h2 => walk_at "spl"); intro k H2 hk1 hh2))
local macro_rules | `(tactic| walk_at "g1") => `(tactic| first | with_reducible refine w_sl ?_ | with_reducible refine w_part ?_ | with_reducible refine w_noPart ?_ | with_reducible refine w_exI ?_)
local macro_rules | `(tactic| walk_at "g1") => `(tactic| first | with_reducible refine w_din ?_ | with_reducible refine w_dnotin ?_ | with_reducible refine w_dget ?_ | with_reducible refine w_dput ?_ | with_reducible refine w_ddel ?_ | with_reducible refine w_dpop ?_)
section
variable {P : Program} {w : World} {K : PySem.W.Frag} {mg : Str → Option Value} {base : Heap} {aREG aOPS : Addr}
section
variable {C : Addr}
def sp_after (C : Addr) (K : PySem.W.Frag) : Sp := fun vs H Q _ => ∃ (o a t : Addr) (nm : Bool) (d : Deed) (S : AgS) (xs : List V) (Z Y R : List Cell), vs = [.ref o, .ref a, .ref t, .bl nm] ∧ AgB C o S Z ∧ RowsIn K S (keys8 S) xs Y ∧ ok1 (domS S) d ∧ Good S ∧ tupC t (dV d) ∈ R ∧ Hd H (Z ++ (lstC a xs :: (Y ++ R))) ∧
  ∀ D S' xs' Z' Y' H', Good S' → (∀ j, domS S' j = dom1 (domS S) d j) → AgB C o S' Z' → RowsIn K S' (keys8 S') xs' Y' → Hd H' (Z' ++ (lstC D xs' :: (Y' ++ R))) → Q (.ref D) H'
theorem Out.good {S S' : AgS} {d : Deed} {r : V} (h : Out S d r S') (hG : Good S) : Good S' := by
  rcases h with ⟨_, ⟨_, _, rfl⟩ | ⟨p, hp, _, rfl⟩⟩ | ⟨hn, _, rfl⟩
  · exact hG
  · intro k m hm hr
    have h8 : k < 8 ∨ ¬ k < 8 := by omega
    have hsome : (S k).isSome = true := by rw [← pick_none (p := p), hm]; rfl
    obtain ⟨m0, hm0⟩ := Option.isSome_iff_exists.mp hsome
    unfold pickS upS at hm
    by_cases e : k = p
    · subst e
      rw [if_pos rfl, hm0] at hm
      cases hm
      rfl
    · rw [if_neg e] at hm
      unfold agedS at hm
      by_cases hin : k ∈ readyL S
      · rw [if_pos hin, hm0] at hm
        cases hm
        obtain ⟨_, m', e1, e2⟩ := ready_mem.mp hin
        rw [hm0] at e1
        cases e1
        rw [show (agedM m0).ready = m0.ready from rfl, e2] at hr
        cases hr
      · rw [if_neg hin] at hm
        exact hG k m hm hr
  · intro k m hm hr
    by_cases e : k = pidOf d
    · subst e
      cases d with
      | pick => exact absurd rfl hn
      | enter k p r => rw [show stepS S (.enter k p r) (pidOf (.enter k p r)) = some (newM p r) from upS_same ..] at hm; cases hm; rfl
      | leave k => rw [show stepS S (.leave k) (pidOf (.leave k)) = none from upS_same ..] at hm; cases hm
      | wake k =>
        rw [show stepS S (.wake k) (pidOf (.wake k)) = (S k).map wakeM from upS_same ..] at hm
        cases hk : S k with
        | none => rw [hk] at hm; cases hm
        | some m0 => rw [hk] at hm; cases hm; cases hr
      | sleep k =>
        rw [show stepS S (.sleep k) (pidOf (.sleep k)) = (S k).map sleepM from upS_same ..] at hm
        cases hk : S k with
        | none => rw [hk] at hm; cases hm
        | some m0 => rw [hk] at hm; cases hm; rfl
      | lend k p =>
        rw [show stepS S (.lend k p) (pidOf (.lend k p)) = (S k).map (fun m => { m with lent := p }) from upS_same ..] at hm
        cases hk : S k with
        | none => rw [hk] at hm; cases hm
        | some m0 => rw [hk] at hm; cases hm; exact hG k m0 hk hr
    · rw [step_ne e] at hm
      exact hG k m hm hr
theorem c_after (T : Txt K mg aREG aOPS) (L : AgC K C) (d : DefAt K mg "_law_after" s__law_after) (c__law_named : C8.Cal P w K mg base 6 "_law_named" (sp_named K C) []) (c__law_called : C8.Cal P w K mg base 6 "_law_called" (sp_called K C) []) (c_Ages_rows : C8.Met P w K mg base 1 C "rows" (sp_rows K C) []) (c__law_is_picked : C8.Cal P w K mg base 4 "_law_is_picked" (sp_picked K) []) (c__law_due_rows : C8.Cal P w K mg base 1 "_law_due_rows" (sp_due K) []) (c__law_alike : C8.Cal P w K mg base 3 "_law_alike" (sp_alike K 3) [])
    (c_Ages_priority : C8.Met P w K mg base 5 C "priority" (sp_mbI C effI) []) (c_Ages_age : C8.Met P w K mg base 5 C "age" (sp_mbI C fun m => m.age) []) (kk_priority : MetK P w K mg base 5 C "priority" (sp_mbI C effI) ["pid"] (fun vs zs => vs ++ zs)) (kk_age : MetK P w K mg base 5 C "age" (sp_mbI C fun m => m.age) ["pid"] (fun vs zs => vs ++ zs)) (c_Ages___contains__ : C8.Met P w K mg base 2 C "__contains__" (sp_cont K C) []) (c__law_copy : C8.Cal P w K mg base 3 "_law_copy" (sp_copyL K 1) []) : C8.Cal P w K mg base 7 "_law_after" (sp_after C K) [] := by
  refine mk d sc__law_after (fun _ _ _ _ _ _ us hl => match us, hl with | [_, _, _, _], _ => rfl) (fun vs H Q E h => ?_) (fun fa cdv A outer s H vs Q E hr h => ?_)
  · obtain ⟨o, a, t, nm, d, S, xs, Z, Y, R, rfl, _⟩ := h
    rfl
  · obtain ⟨o, a, t, nm, d, S, xs, Z, Y, R, rfl, hb, hY, hok, hG, ht, hh, q⟩ := h
    have hu : (A.deeper (envOfC "_law_after" (defScope s__law_after) s.heap.objs.size fa cdv)).units + 1 < cLine := by have := hr.un; omega
    refine ⟨_, (pss_cons (ps_if (PW.pt (pw_and (pt_val (pv 3)) (pw_and1 (pt_cmpR op_ne (pe_ix ix_tup (pv 2) pe_int (fun _ _ => rfl)) pe_str (nomark _)))))
    (pss_one (ps_set (i := 4) sc__law_after.nd rfl (Or.inl rfl) (C8.pe_c c__law_named hr (by first | decide | omega) rfl (pa_cons (pv 0) (pa_cons (pv 2) pa_nil)))))
    (pss_one (ps_set (i := 4) sc__law_after.nd rfl (Or.inl rfl) (C8.pe_c c__law_called hr (by first | decide | omega) rfl (pa_cons (pv 0) (pa_cons (pv 2) pa_nil))))))
  (pss_cons (ps_set (i := 5) sc__law_after.nd rfl (Or.inl rfl) (C8.pe_mt0 c_Ages_rows hr (by first | decide | omega) (pv 0)))
  (pss_cons (ps_if (pt_cmpR op_eq (pe_ix ix_tup (pv 2) pe_int (fun _ _ => rfl)) pe_str (nomark _))
    (pss_one (ps_if (pt_not (pt_val (C8.pe_c c__law_is_picked hr (by first | decide | omega) rfl (pa_cons (pv 1) (pa_cons (pv 4) (pa_cons (pv 5) pa_nil))))))
        (pss_one (ps_ret pe_non))
        pss_nil))
    (pss_one (ps_if (PW.pt (pw_or (pt_cmpR op_notN1 (pv 4) pe_non (nomark _)) (pw_or1 (pt_not (pt_val (C8.pe_c c__law_alike hr (by first | decide | omega) rfl (pa_cons (C8.pe_c c__law_due_rows hr (by first | decide | omega) rfl (pa_cons (pv 1) (pa_cons (pv 2) pa_nil))) (pa_cons (pv 5) pa_nil))))))))
        (pss_one (ps_ret pe_non))
        pss_nil)))
  (pss_cons (ps_for PassesOwn.never rfl (pi_list (pv 5)) (pg_name (i := 6) sc__law_after.nd rfl (Or.inl rfl))
    (pss_cons (ps_set (i := 7) sc__law_after.nd rfl (Or.inl rfl) (pe_lst (pa_cons (C8.pe_mt c_Ages_priority hr (by first | decide | omega) (pv 0) (pa_cons (pe_ix ix_tup (pv 6) pe_int (fun _ _ => rfl)) pa_nil)) (pa_cons (C8.pe_mt c_Ages_age hr (by first | decide | omega) (pv 0) (pa_cons (pe_ix ix_tup (pv 6) pe_int (fun _ _ => rfl)) pa_nil)) pa_nil))))
      (pss_cons (ps_if (pt_val (pv 3))
        (pss_one (ps_set (i := 7) sc__law_after.nd rfl (Or.inl rfl) (pe_lst (pa_cons (Wk.pe_mtK kk_priority hr (by first | decide | omega) (pv 0) (pk_cons (pe_ix ix_tup (pv 6) pe_int (fun _ _ => rfl)) pk_nil)) (pa_cons (Wk.pe_mtK kk_age hr (by first | decide | omega) (pv 0) (pk_cons (pe_ix ix_tup (pv 6) pe_int (fun _ _ => rfl)) pk_nil)) pa_nil)))))
        pss_nil)
      (pss_cons (ps_if (pt_not (pt_val (C8.pe_c c__law_alike hr (by first | decide | omega) rfl (pa_cons (pe_lst (pa_cons (pe_callB (Wk.b_max rfl) (by rfl) T.b_max (by decide +kernel) (pa_cons (pe_ix ix_tup (pv 6) pe_int (fun _ _ => rfl)) (pa_cons (pe_ix ix_tup (pv 6) pe_int (fun _ _ => rfl)) pa_nil))) (pa_cons (pe_ix ix_tup (pv 6) pe_int (fun _ _ => rfl)) pa_nil))) (pa_cons (pv 7) pa_nil)))))
        (pss_one (ps_ret pe_non))
        pss_nil)
      (pss_one (ps_if (pt_cmpR (Wk.op_notin_own c_Ages___contains__ hr (by first | decide | omega)) (pe_ix ix_tup (pv 6) pe_int (fun _ _ => rfl)) (pv 0) (by rfl))
        (pss_one (ps_ret pe_non))
        pss_nil))))))
  (pss_cons (ps_if (PW.pt (pw_and (pt_cmpR op_eq (pe_ix ix_tup (pv 2) pe_int (fun _ _ => rfl)) pe_str (nomark _)) (pw_and1 (pt_cmpR (Wk.op_in_own c_Ages___contains__ hr (by first | decide | omega)) (pe_ix ix_tup (pv 2) pe_int (fun _ _ => rfl)) (pv 0) (by rfl)))))
    (pss_one (ps_ret pe_non))
    pss_nil)
  (pss_one (ps_ret (C8.pe_c c__law_copy hr (by first | decide | omega) rfl (pa_cons (pv 5) pa_nil))))))))), ?_⟩
    cases d with
    | pick =>
      have ht : tupC t [V.str (Str.ofString "pick")] ∈ R := ht
      cases nm with
      | true =>
        walk_at "gs"
        refine ⟨o, t, .pick, S, Z, _, rfl, List.mem_cons_of_mem _ (List.mem_append_right _ ht), hb, hok, hh, fun r S' Z' H1 hout hb' h1 => ?_⟩
        clear hh
        have hgood := hout.good hG
        have hdom := hout.dom hok
        have hb'' := hb'
        obtain ⟨dd, Z1, tb, rfl⟩ := hb'
        have h1 : Hd H1 (agI o C dd :: (Z1 ++ (lstC a xs :: (Y ++ R)))) := h1
        walk_at "gs"
        refine ⟨o, S', _, _, rfl, hb'', h1, fun D ys Y2 H2 hyl hY2 h2 => ?_⟩
        have h2 : Hd H2 (lstC D ys :: (Y2 ++ (agI o C dd :: (Z1 ++ (lstC a xs :: (Y ++ R)))))) := h2
        have hY2 : RowsIn K S' (keys8 S') ys Y2 := hY2
        clear h1
        walk_at "gs"
        refine ⟨a, D, r, S, S', xs, ys, Y, Y2, agI o C dd :: (Z1 ++ R), rfl, hY, hY2, hout, hG, Hd.sb h2 (by walk_at "sbx"), fun H3 h3 => ?_⟩
        refine ⟨true, rfl, ?_⟩
        have h3 : Hd H3 (lstC D ys :: (Y2 ++ (agI o C dd :: (Z1 ++ (lstC a xs :: (Y ++ R)))))) := Hd.sb h3 (by walk_at "sbx")
        clear h2
        walk_at "gs"
        refine l_list (h3.sqL (by walk_at "mem")) (fun i σ H => ∃ (v6 v7 : Option V), σ = [some (.ref o), some (.ref a), some (.ref t), some (.bl true), some r, some (.ref D), v6, v7] ∧ Hd H (lstC D ys :: (Y2 ++ (agI o C dd :: (Z1 ++ (lstC a xs :: (Y ++ R))))))) ⟨_, _, rfl, h3⟩ (fun i σ H _ h => by obtain ⟨_, _, _, h⟩ := h; exact h.sqL (by walk_at "mem")) ?_ ?_
        · rintro i x σ H4 hx ⟨v6, v7, rfl, h4⟩
          obtain ⟨k', m, tt, hk', hm, rfl, hrow⟩ := hY2.at_ keys_some hx (show Hd H4 (Y2 ++ _) from Hd.sb (A := Y2 ++ (lstC D ys :: (agI o C dd :: (Z1 ++ (lstC a xs :: (Y ++ R)))))) h4 (by walk_at "sbx"))
          have rowAt : ∀ {H' : Hp} {L' : List Cell}, Hd H' L' → Sb Y2 L' → SqT K H' tt (rowV k' m) := fun h s => hrow _ [] (by rw [List.append_nil]; exact h.sb s)
          have hr4 := rowAt h4 (by walk_at "sbx")
          clear h3
          walk_at "gs"
          refine g_mbI hb'' hm (show Hd H4 (agI o C dd :: (Z1 ++ (lstC D ys :: (Y2 ++ (lstC a xs :: (Y ++ R)))))) from Hd.sb h4 (by walk_at "sbx")) ?_
          walk_at "gs"
          refine g_mbI (f := fun m => (m.age : Int)) hb'' hm (show Hd H4 (agI o C dd :: (Z1 ++ (lstC D ys :: (Y2 ++ (lstC a xs :: (Y ++ R)))))) from Hd.sb h4 (by walk_at "sbx")) ?_
          walk_at "gs"
          rename_i pa0 H5 h5
          have hr5 := rowAt h5 (by walk_at "sbx")
          clear h4
          refine w_methK ?_
          walk_at "gs"
          refine g_methK (fs := [("_members", .ref dd)]) h5 (by walk_at "mem") rfl ?_
          walk_at "gs"
          refine ⟨rfl, ?_⟩
          refine g_mbI hb'' hm (show Hd H5 (agI o C dd :: (Z1 ++ (lstC pa0 [.int (effI m), .int m.age] :: lstC D ys :: (Y2 ++ (lstC a xs :: (Y ++ R)))))) from Hd.sb h5 (by walk_at "sbx")) ?_
          walk_at "gs"
          refine w_methK ?_
          walk_at "gs"
          refine g_methK (fs := [("_members", .ref dd)]) h5 (by walk_at "mem") rfl ?_
          walk_at "gs"
          refine ⟨rfl, ?_⟩
          refine g_mbI (f := fun m => (m.age : Int)) hb'' hm (show Hd H5 (agI o C dd :: (Z1 ++ (lstC pa0 [.int (effI m), .int m.age] :: lstC D ys :: (Y2 ++ (lstC a xs :: (Y ++ R)))))) from Hd.sb h5 (by walk_at "sbx")) ?_
          walk_at "gs"
          rename_i pa H55 h55
          have hr55 := rowAt h55 (by walk_at "sbx")
          clear h5
          walk_at "gs"
          rename_i pm H6 h6
          have h6 : Hd H6 (lstC pm [.int (effI m), .int m.age] :: lstC pa [.int (effI m), .int m.age] :: _) := h6
          have hr6 := rowAt h6 (by walk_at "sbx")
          have d1 : Dn K [] H6 2 (.ref pm) (.list [.int (effI m), .int m.age]) := .inr (.inl ⟨pm, [.int (effI m), .int m.age], _, rfl, rfl, List.not_mem_nil, h6.sqL (by walk_at "mem"), (show 2 ≤ 100000 by decide), .cons Dn.int (.cons Dn.int .nil)⟩)
          have d2 : Dn K [] H6 2 (.ref pa) (.list [.int (effI m), .int m.age]) := .inr (.inl ⟨pa, [.int (effI m), .int m.age], _, rfl, rfl, List.not_mem_nil, h6.sqL (by walk_at "mem"), (show 2 ≤ 100000 by decide), .cons Dn.int (.cons Dn.int .nil)⟩)
          refine g_alike (n := 2) d1 d2 ?_
          refine ⟨true, rfl, ?_⟩
          walk_at "gs"
          obtain ⟨dx, ei⟩ := h6.ins (a := o) (C := C) (fs := [("_members", .ref dd)]) (by walk_at "mem")
          refine ⟨o, dx, _, rfl, ei, o, .int (k' : Int), "int", S', agI o C dd :: Z1, _, rfl, .int, hb'', show Hd H6 (agI o C dd :: (Z1 ++ _)) from Hd.sb (A := agI o C dd :: (Z1 ++ (lstC D ys :: (Y2 ++ (lstC a xs :: (Y ++ R)))))) h6 (by walk_at "sbx"), _, rfl, ?_⟩
          have hmem : memB S' (.int (k' : Int)) = true := by show (decide ((0 : Int) ≤ (k' : Int)) && (S' k').isSome) = true; rw [hm, decide_eq_true (by omega)]; rfl
          rw [hmem]
          walk_at "gs"
          exact ⟨_, _, rfl, Hd.sb (A := lstC D ys :: (Y2 ++ (agI o C dd :: (Z1 ++ (lstC a xs :: (Y ++ R)))))) h6 (by walk_at "sbx")⟩
        · rintro σ H4 ⟨v6, v7, rfl, h4⟩
          clear h3
          walk_at "gs"
          refine g_copyL (m := 1) h4 (h4.sqL (by walk_at "mem")) (by omega) (hY2 H4 (Hd.sb h4 (by walk_at "sbx"))) fun D4 acc Zc H5 hz h5 => ?_
          walk_at "gs"
          exact q D4 S' acc (agI o C dd :: Z1) Zc H5 hgood hdom hb'' hz (show Hd H5 (agI o C dd :: (Z1 ++ (lstC D4 acc :: (Zc ++ R)))) from Hd.sb h5 (by walk_at "sbx"))
      | false =>
        walk_at "gs"
        refine ⟨o, t, .pick, S, Z, _, rfl, List.mem_cons_of_mem _ (List.mem_append_right _ ht), hb, hok, hh, fun r S' Z' H1 hout hb' h1 => ?_⟩
        clear hh
        have hgood := hout.good hG
        have hdom := hout.dom hok
        have hb'' := hb'
        obtain ⟨dd, Z1, tb, rfl⟩ := hb'
        have h1 : Hd H1 (agI o C dd :: (Z1 ++ (lstC a xs :: (Y ++ R)))) := h1
        walk_at "gs"
        refine ⟨o, S', _, _, rfl, hb'', h1, fun D ys Y2 H2 hyl hY2 h2 => ?_⟩
        have h2 : Hd H2 (lstC D ys :: (Y2 ++ (agI o C dd :: (Z1 ++ (lstC a xs :: (Y ++ R)))))) := h2
        have hY2 : RowsIn K S' (keys8 S') ys Y2 := hY2
        clear h1
        walk_at "gs"
        refine ⟨a, D, r, S, S', xs, ys, Y, Y2, agI o C dd :: (Z1 ++ R), rfl, hY, hY2, hout, hG, Hd.sb h2 (by walk_at "sbx"), fun H3 h3 => ?_⟩
        refine ⟨true, rfl, ?_⟩
        have h3 : Hd H3 (lstC D ys :: (Y2 ++ (agI o C dd :: (Z1 ++ (lstC a xs :: (Y ++ R)))))) := Hd.sb h3 (by walk_at "sbx")
        clear h2
        walk_at "gs"
        refine l_list (h3.sqL (by walk_at "mem")) (fun i σ H => ∃ (v6 v7 : Option V), σ = [some (.ref o), some (.ref a), some (.ref t), some (.bl false), some r, some (.ref D), v6, v7] ∧ Hd H (lstC D ys :: (Y2 ++ (agI o C dd :: (Z1 ++ (lstC a xs :: (Y ++ R))))))) ⟨_, _, rfl, h3⟩ (fun i σ H _ h => by obtain ⟨_, _, _, h⟩ := h; exact h.sqL (by walk_at "mem")) ?_ ?_
        · rintro i x σ H4 hx ⟨v6, v7, rfl, h4⟩
          obtain ⟨k', m, tt, hk', hm, rfl, hrow⟩ := hY2.at_ keys_some hx (show Hd H4 (Y2 ++ _) from Hd.sb (A := Y2 ++ (lstC D ys :: (agI o C dd :: (Z1 ++ (lstC a xs :: (Y ++ R)))))) h4 (by walk_at "sbx"))
          have rowAt : ∀ {H' : Hp} {L' : List Cell}, Hd H' L' → Sb Y2 L' → SqT K H' tt (rowV k' m) := fun h s => hrow _ [] (by rw [List.append_nil]; exact h.sb s)
          have hr4 := rowAt h4 (by walk_at "sbx")
          clear h3
          walk_at "gs"
          refine g_mbI hb'' hm (show Hd H4 (agI o C dd :: (Z1 ++ (lstC D ys :: (Y2 ++ (lstC a xs :: (Y ++ R)))))) from Hd.sb h4 (by walk_at "sbx")) ?_
          walk_at "gs"
          refine g_mbI (f := fun m => (m.age : Int)) hb'' hm (show Hd H4 (agI o C dd :: (Z1 ++ (lstC D ys :: (Y2 ++ (lstC a xs :: (Y ++ R)))))) from Hd.sb h4 (by walk_at "sbx")) ?_
          walk_at "gs"
          rename_i pa H5 h5
          have hr5 := rowAt h5 (by walk_at "sbx")
          clear h4
          walk_at "gs"
          rename_i pm H6 h6
          have h6 : Hd H6 (lstC pm [.int (effI m), .int m.age] :: lstC pa [.int (effI m), .int m.age] :: _) := h6
          have hr6 := rowAt h6 (by walk_at "sbx")
          have d1 : Dn K [] H6 2 (.ref pm) (.list [.int (effI m), .int m.age]) := .inr (.inl ⟨pm, [.int (effI m), .int m.age], _, rfl, rfl, List.not_mem_nil, h6.sqL (by walk_at "mem"), (show 2 ≤ 100000 by decide), .cons Dn.int (.cons Dn.int .nil)⟩)
          have d2 : Dn K [] H6 2 (.ref pa) (.list [.int (effI m), .int m.age]) := .inr (.inl ⟨pa, [.int (effI m), .int m.age], _, rfl, rfl, List.not_mem_nil, h6.sqL (by walk_at "mem"), (show 2 ≤ 100000 by decide), .cons Dn.int (.cons Dn.int .nil)⟩)
          refine g_alike (n := 2) d1 d2 ?_
          refine ⟨true, rfl, ?_⟩
          walk_at "gs"
          obtain ⟨dx, ei⟩ := h6.ins (a := o) (C := C) (fs := [("_members", .ref dd)]) (by walk_at "mem")
          refine ⟨o, dx, _, rfl, ei, o, .int (k' : Int), "int", S', agI o C dd :: Z1, _, rfl, .int, hb'', show Hd H6 (agI o C dd :: (Z1 ++ _)) from Hd.sb (A := agI o C dd :: (Z1 ++ (lstC D ys :: (Y2 ++ (lstC a xs :: (Y ++ R)))))) h6 (by walk_at "sbx"), _, rfl, ?_⟩
          have hmem : memB S' (.int (k' : Int)) = true := by show (decide ((0 : Int) ≤ (k' : Int)) && (S' k').isSome) = true; rw [hm, decide_eq_true (by omega)]; rfl
          rw [hmem]
          walk_at "gs"
          exact ⟨_, _, rfl, Hd.sb (A := lstC D ys :: (Y2 ++ (agI o C dd :: (Z1 ++ (lstC a xs :: (Y ++ R)))))) h6 (by walk_at "sbx")⟩
        · rintro σ H4 ⟨v6, v7, rfl, h4⟩
          clear h3
          walk_at "gs"
          refine g_copyL (m := 1) h4 (h4.sqL (by walk_at "mem")) (by omega) (hY2 H4 (Hd.sb h4 (by walk_at "sbx"))) fun D4 acc Zc H5 hz h5 => ?_
          walk_at "gs"
          exact q D4 S' acc (agI o C dd :: Z1) Zc H5 hgood hdom hb'' hz (show Hd H5 (agI o C dd :: (Z1 ++ (lstC D4 acc :: (Zc ++ R)))) from Hd.sb h5 (by walk_at "sbx"))
    | leave k =>
      have ht : tupC t [V.str (Str.ofString "leave"), V.int (k : Int)] ∈ R := ht
      cases nm with
      | true =>
        walk_at "gs"
        refine ⟨o, t, .leave k, S, Z, _, rfl, (fun z => by cases z), List.mem_cons_of_mem _ (List.mem_append_right _ ht), hb, hok, hh, fun r S' Z' H1 hout hb' h1 => ?_⟩
        clear hh
        have hgood := hout.good hG
        have hdom := hout.dom hok
        have hb'' := hb'
        obtain ⟨dd, Z1, tb, rfl⟩ := hb'
        have h1 : Hd H1 (agI o C dd :: (Z1 ++ (lstC a xs :: (Y ++ R)))) := h1
        obtain ⟨hrn, hS'⟩ : r = .non ∧ S' = stepS S (.leave k) := by
          rcases hout with ⟨e, _⟩ | ⟨_, e1, e2⟩
          · cases e
          · exact ⟨e1, e2⟩
        subst hrn
        walk_at "gs"
        refine ⟨o, S', _, _, rfl, hb'', h1, fun D ys Y2 H2 hyl hY2 h2 => ?_⟩
        have h2 : Hd H2 (lstC D ys :: (Y2 ++ (agI o C dd :: (Z1 ++ (lstC a xs :: (Y ++ R)))))) := h2
        have hY2 : RowsIn K S' (keys8 S') ys Y2 := hY2
        clear h1
        walk_at "gs"
        refine ⟨a, t, .leave k, S, xs, Y, lstC D ys :: (Y2 ++ (agI o C dd :: (Z1 ++ R))), rfl, hY, (fun z => by cases z), hok, hG, List.mem_cons_of_mem _ (List.mem_append_right _ (List.mem_cons_of_mem _ (List.mem_append_right _ ht))), Hd.sb h2 (by walk_at "sbx"), fun D2 H3 h3 dn => ?_⟩
        walk_at "gs"
        refine g_alike (n := 2) (hS' ▸ dn) (dn_tab hY2 h3 (by walk_at "mem") (by omega) (Hd.sb h3 (by walk_at "sbx"))) ?_
        refine ⟨true, rfl, ?_⟩
        have h3 : Hd H3 (lstC D ys :: (Y2 ++ (agI o C dd :: (Z1 ++ (lstC a xs :: (Y ++ R)))))) := Hd.sb h3 (by walk_at "sbx")
        clear h2
        walk_at "gs"
        refine l_list (h3.sqL (by walk_at "mem")) (fun i σ H => ∃ (v6 v7 : Option V), σ = [some (.ref o), some (.ref a), some (.ref t), some (.bl true), some .non, some (.ref D), v6, v7] ∧ Hd H (lstC D ys :: (Y2 ++ (agI o C dd :: (Z1 ++ (lstC a xs :: (Y ++ R))))))) ⟨_, _, rfl, h3⟩ (fun i σ H _ h => by obtain ⟨_, _, _, h⟩ := h; exact h.sqL (by walk_at "mem")) ?_ ?_
        · rintro i x σ H4 hx ⟨v6, v7, rfl, h4⟩
          obtain ⟨k', m, tt, hk', hm, rfl, hrow⟩ := hY2.at_ keys_some hx (show Hd H4 (Y2 ++ _) from Hd.sb (A := Y2 ++ (lstC D ys :: (agI o C dd :: (Z1 ++ (lstC a xs :: (Y ++ R)))))) h4 (by walk_at "sbx"))
          have rowAt : ∀ {H' : Hp} {L' : List Cell}, Hd H' L' → Sb Y2 L' → SqT K H' tt (rowV k' m) := fun h s => hrow _ [] (by rw [List.append_nil]; exact h.sb s)
          have hr4 := rowAt h4 (by walk_at "sbx")
          clear h3
          walk_at "gs"
          refine g_mbI hb'' hm (show Hd H4 (agI o C dd :: (Z1 ++ (lstC D ys :: (Y2 ++ (lstC a xs :: (Y ++ R)))))) from Hd.sb h4 (by walk_at "sbx")) ?_
          walk_at "gs"
          refine g_mbI (f := fun m => (m.age : Int)) hb'' hm (show Hd H4 (agI o C dd :: (Z1 ++ (lstC D ys :: (Y2 ++ (lstC a xs :: (Y ++ R)))))) from Hd.sb h4 (by walk_at "sbx")) ?_
          walk_at "gs"
          rename_i pa0 H5 h5
          have hr5 := rowAt h5 (by walk_at "sbx")
          clear h4
          refine w_methK ?_
          walk_at "gs"
          refine g_methK (fs := [("_members", .ref dd)]) h5 (by walk_at "mem") rfl ?_
          walk_at "gs"
          refine ⟨rfl, ?_⟩
          refine g_mbI hb'' hm (show Hd H5 (agI o C dd :: (Z1 ++ (lstC pa0 [.int (effI m), .int m.age] :: lstC D ys :: (Y2 ++ (lstC a xs :: (Y ++ R)))))) from Hd.sb h5 (by walk_at "sbx")) ?_
          walk_at "gs"
          refine w_methK ?_
          walk_at "gs"
          refine g_methK (fs := [("_members", .ref dd)]) h5 (by walk_at "mem") rfl ?_
          walk_at "gs"
          refine ⟨rfl, ?_⟩
          refine g_mbI (f := fun m => (m.age : Int)) hb'' hm (show Hd H5 (agI o C dd :: (Z1 ++ (lstC pa0 [.int (effI m), .int m.age] :: lstC D ys :: (Y2 ++ (lstC a xs :: (Y ++ R)))))) from Hd.sb h5 (by walk_at "sbx")) ?_
          walk_at "gs"
          rename_i pa H55 h55
          have hr55 := rowAt h55 (by walk_at "sbx")
          clear h5
          walk_at "gs"
          rename_i pm H6 h6
          have h6 : Hd H6 (lstC pm [.int (effI m), .int m.age] :: lstC pa [.int (effI m), .int m.age] :: _) := h6
          have hr6 := rowAt h6 (by walk_at "sbx")
          have d1 : Dn K [] H6 2 (.ref pm) (.list [.int (effI m), .int m.age]) := .inr (.inl ⟨pm, [.int (effI m), .int m.age], _, rfl, rfl, List.not_mem_nil, h6.sqL (by walk_at "mem"), (show 2 ≤ 100000 by decide), .cons Dn.int (.cons Dn.int .nil)⟩)
          have d2 : Dn K [] H6 2 (.ref pa) (.list [.int (effI m), .int m.age]) := .inr (.inl ⟨pa, [.int (effI m), .int m.age], _, rfl, rfl, List.not_mem_nil, h6.sqL (by walk_at "mem"), (show 2 ≤ 100000 by decide), .cons Dn.int (.cons Dn.int .nil)⟩)
          refine g_alike (n := 2) d1 d2 ?_
          refine ⟨true, rfl, ?_⟩
          walk_at "gs"
          obtain ⟨dx, ei⟩ := h6.ins (a := o) (C := C) (fs := [("_members", .ref dd)]) (by walk_at "mem")
          refine ⟨o, dx, _, rfl, ei, o, .int (k' : Int), "int", S', agI o C dd :: Z1, _, rfl, .int, hb'', show Hd H6 (agI o C dd :: (Z1 ++ _)) from Hd.sb (A := agI o C dd :: (Z1 ++ (lstC D ys :: (Y2 ++ (lstC a xs :: (Y ++ R)))))) h6 (by walk_at "sbx"), _, rfl, ?_⟩
          have hmem : memB S' (.int (k' : Int)) = true := by show (decide ((0 : Int) ≤ (k' : Int)) && (S' k').isSome) = true; rw [hm, decide_eq_true (by omega)]; rfl
          rw [hmem]
          walk_at "gs"
          exact ⟨_, _, rfl, Hd.sb (A := lstC D ys :: (Y2 ++ (agI o C dd :: (Z1 ++ (lstC a xs :: (Y ++ R)))))) h6 (by walk_at "sbx")⟩
        · rintro σ H4 ⟨v6, v7, rfl, h4⟩
          clear h3
          walk_at "gs"
          obtain ⟨dx, ei⟩ := h4.ins (a := o) (C := C) (fs := [("_members", .ref dd)]) (by walk_at "mem")
          refine ⟨o, dx, _, rfl, ei, o, .int (k : Int), "int", S', agI o C dd :: Z1, _, rfl, .int, hb'', show Hd H4 (agI o C dd :: (Z1 ++ _)) from Hd.sb (A := agI o C dd :: (Z1 ++ (lstC D ys :: (Y2 ++ (lstC a xs :: (Y ++ R)))))) h4 (by walk_at "sbx"), _, rfl, ?_⟩
          have hmem : memB S' (.int (k : Int)) = false := by show (decide ((0 : Int) ≤ (k : Int)) && (S' k).isSome) = false; rw [hS', show stepS S (.leave k) k = none from upS_same ..]; exact Bool.and_false _
          rw [hmem]
          walk_at "gs"
          refine g_copyL (m := 1) h4 (h4.sqL (by walk_at "mem")) (by omega) (hY2 H4 (Hd.sb h4 (by walk_at "sbx"))) fun D4 acc Zc H5 hz h5 => ?_
          walk_at "gs"
          exact q D4 S' acc (agI o C dd :: Z1) Zc H5 hgood hdom hb'' hz (show Hd H5 (agI o C dd :: (Z1 ++ (lstC D4 acc :: (Zc ++ R)))) from Hd.sb h5 (by walk_at "sbx"))
      | false =>
        walk_at "gs"
        refine ⟨o, t, .leave k, S, Z, _, rfl, List.mem_cons_of_mem _ (List.mem_append_right _ ht), hb, hok, hh, fun r S' Z' H1 hout hb' h1 => ?_⟩
        clear hh
        have hgood := hout.good hG
        have hdom := hout.dom hok
        have hb'' := hb'
        obtain ⟨dd, Z1, tb, rfl⟩ := hb'
        have h1 : Hd H1 (agI o C dd :: (Z1 ++ (lstC a xs :: (Y ++ R)))) := h1
        obtain ⟨hrn, hS'⟩ : r = .non ∧ S' = stepS S (.leave k) := by
          rcases hout with ⟨e, _⟩ | ⟨_, e1, e2⟩
          · cases e
          · exact ⟨e1, e2⟩
        subst hrn
        walk_at "gs"
        refine ⟨o, S', _, _, rfl, hb'', h1, fun D ys Y2 H2 hyl hY2 h2 => ?_⟩
        have h2 : Hd H2 (lstC D ys :: (Y2 ++ (agI o C dd :: (Z1 ++ (lstC a xs :: (Y ++ R)))))) := h2
        have hY2 : RowsIn K S' (keys8 S') ys Y2 := hY2
        clear h1
        walk_at "gs"
        refine ⟨a, t, .leave k, S, xs, Y, lstC D ys :: (Y2 ++ (agI o C dd :: (Z1 ++ R))), rfl, hY, (fun z => by cases z), hok, hG, List.mem_cons_of_mem _ (List.mem_append_right _ (List.mem_cons_of_mem _ (List.mem_append_right _ ht))), Hd.sb h2 (by walk_at "sbx"), fun D2 H3 h3 dn => ?_⟩
        walk_at "gs"
        refine g_alike (n := 2) (hS' ▸ dn) (dn_tab hY2 h3 (by walk_at "mem") (by omega) (Hd.sb h3 (by walk_at "sbx"))) ?_
        refine ⟨true, rfl, ?_⟩
        have h3 : Hd H3 (lstC D ys :: (Y2 ++ (agI o C dd :: (Z1 ++ (lstC a xs :: (Y ++ R)))))) := Hd.sb h3 (by walk_at "sbx")
        clear h2
        walk_at "gs"
        refine l_list (h3.sqL (by walk_at "mem")) (fun i σ H => ∃ (v6 v7 : Option V), σ = [some (.ref o), some (.ref a), some (.ref t), some (.bl false), some .non, some (.ref D), v6, v7] ∧ Hd H (lstC D ys :: (Y2 ++ (agI o C dd :: (Z1 ++ (lstC a xs :: (Y ++ R))))))) ⟨_, _, rfl, h3⟩ (fun i σ H _ h => by obtain ⟨_, _, _, h⟩ := h; exact h.sqL (by walk_at "mem")) ?_ ?_
        · rintro i x σ H4 hx ⟨v6, v7, rfl, h4⟩
          obtain ⟨k', m, tt, hk', hm, rfl, hrow⟩ := hY2.at_ keys_some hx (show Hd H4 (Y2 ++ _) from Hd.sb (A := Y2 ++ (lstC D ys :: (agI o C dd :: (Z1 ++ (lstC a xs :: (Y ++ R)))))) h4 (by walk_at "sbx"))
          have rowAt : ∀ {H' : Hp} {L' : List Cell}, Hd H' L' → Sb Y2 L' → SqT K H' tt (rowV k' m) := fun h s => hrow _ [] (by rw [List.append_nil]; exact h.sb s)
          have hr4 := rowAt h4 (by walk_at "sbx")
          clear h3
          walk_at "gs"
          refine g_mbI hb'' hm (show Hd H4 (agI o C dd :: (Z1 ++ (lstC D ys :: (Y2 ++ (lstC a xs :: (Y ++ R)))))) from Hd.sb h4 (by walk_at "sbx")) ?_
          walk_at "gs"
          refine g_mbI (f := fun m => (m.age : Int)) hb'' hm (show Hd H4 (agI o C dd :: (Z1 ++ (lstC D ys :: (Y2 ++ (lstC a xs :: (Y ++ R)))))) from Hd.sb h4 (by walk_at "sbx")) ?_
          walk_at "gs"
          rename_i pa H5 h5
          have hr5 := rowAt h5 (by walk_at "sbx")
          clear h4
          walk_at "gs"
          rename_i pm H6 h6
          have h6 : Hd H6 (lstC pm [.int (effI m), .int m.age] :: lstC pa [.int (effI m), .int m.age] :: _) := h6
          have hr6 := rowAt h6 (by walk_at "sbx")
          have d1 : Dn K [] H6 2 (.ref pm) (.list [.int (effI m), .int m.age]) := .inr (.inl ⟨pm, [.int (effI m), .int m.age], _, rfl, rfl, List.not_mem_nil, h6.sqL (by walk_at "mem"), (show 2 ≤ 100000 by decide), .cons Dn.int (.cons Dn.int .nil)⟩)
          have d2 : Dn K [] H6 2 (.ref pa) (.list [.int (effI m), .int m.age]) := .inr (.inl ⟨pa, [.int (effI m), .int m.age], _, rfl, rfl, List.not_mem_nil, h6.sqL (by walk_at "mem"), (show 2 ≤ 100000 by decide), .cons Dn.int (.cons Dn.int .nil)⟩)
          refine g_alike (n := 2) d1 d2 ?_
          refine ⟨true, rfl, ?_⟩
          walk_at "gs"
          obtain ⟨dx, ei⟩ := h6.ins (a := o) (C := C) (fs := [("_members", .ref dd)]) (by walk_at "mem")
          refine ⟨o, dx, _, rfl, ei, o, .int (k' : Int), "int", S', agI o C dd :: Z1, _, rfl, .int, hb'', show Hd H6 (agI o C dd :: (Z1 ++ _)) from Hd.sb (A := agI o C dd :: (Z1 ++ (lstC D ys :: (Y2 ++ (lstC a xs :: (Y ++ R)))))) h6 (by walk_at "sbx"), _, rfl, ?_⟩
          have hmem : memB S' (.int (k' : Int)) = true := by show (decide ((0 : Int) ≤ (k' : Int)) && (S' k').isSome) = true; rw [hm, decide_eq_true (by omega)]; rfl
          rw [hmem]
          walk_at "gs"
          exact ⟨_, _, rfl, Hd.sb (A := lstC D ys :: (Y2 ++ (agI o C dd :: (Z1 ++ (lstC a xs :: (Y ++ R)))))) h6 (by walk_at "sbx")⟩
        · rintro σ H4 ⟨v6, v7, rfl, h4⟩
          clear h3
          walk_at "gs"
          obtain ⟨dx, ei⟩ := h4.ins (a := o) (C := C) (fs := [("_members", .ref dd)]) (by walk_at "mem")
          refine ⟨o, dx, _, rfl, ei, o, .int (k : Int), "int", S', agI o C dd :: Z1, _, rfl, .int, hb'', show Hd H4 (agI o C dd :: (Z1 ++ _)) from Hd.sb (A := agI o C dd :: (Z1 ++ (lstC D ys :: (Y2 ++ (lstC a xs :: (Y ++ R)))))) h4 (by walk_at "sbx"), _, rfl, ?_⟩
          have hmem : memB S' (.int (k : Int)) = false := by show (decide ((0 : Int) ≤ (k : Int)) && (S' k).isSome) = false; rw [hS', show stepS S (.leave k) k = none from upS_same ..]; exact Bool.and_false _
          rw [hmem]
          walk_at "gs"
          refine g_copyL (m := 1) h4 (h4.sqL (by walk_at "mem")) (by omega) (hY2 H4 (Hd.sb h4 (by walk_at "sbx"))) fun D4 acc Zc H5 hz h5 => ?_
          walk_at "gs"
          exact q D4 S' acc (agI o C dd :: Z1) Zc H5 hgood hdom hb'' hz (show Hd H5 (agI o C dd :: (Z1 ++ (lstC D4 acc :: (Zc ++ R)))) from Hd.sb h5 (by walk_at "sbx"))
    | wake k =>
      have ht : tupC t [V.str (Str.ofString "wake"), V.int (k : Int)] ∈ R := ht
      cases nm with
      | true =>
        walk_at "gs"
        refine ⟨o, t, .wake k, S, Z, _, rfl, (fun z => by cases z), List.mem_cons_of_mem _ (List.mem_append_right _ ht), hb, hok, hh, fun r S' Z' H1 hout hb' h1 => ?_⟩
        clear hh
        have hgood := hout.good hG
        have hdom := hout.dom hok
        have hb'' := hb'
        obtain ⟨dd, Z1, tb, rfl⟩ := hb'
        have h1 : Hd H1 (agI o C dd :: (Z1 ++ (lstC a xs :: (Y ++ R)))) := h1
        obtain ⟨hrn, hS'⟩ : r = .non ∧ S' = stepS S (.wake k) := by
          rcases hout with ⟨e, _⟩ | ⟨_, e1, e2⟩
          · cases e
          · exact ⟨e1, e2⟩
        subst hrn
        walk_at "gs"
        refine ⟨o, S', _, _, rfl, hb'', h1, fun D ys Y2 H2 hyl hY2 h2 => ?_⟩
        have h2 : Hd H2 (lstC D ys :: (Y2 ++ (agI o C dd :: (Z1 ++ (lstC a xs :: (Y ++ R)))))) := h2
        have hY2 : RowsIn K S' (keys8 S') ys Y2 := hY2
        clear h1
        walk_at "gs"
        refine ⟨a, t, .wake k, S, xs, Y, lstC D ys :: (Y2 ++ (agI o C dd :: (Z1 ++ R))), rfl, hY, (fun z => by cases z), hok, hG, List.mem_cons_of_mem _ (List.mem_append_right _ (List.mem_cons_of_mem _ (List.mem_append_right _ ht))), Hd.sb h2 (by walk_at "sbx"), fun D2 H3 h3 dn => ?_⟩
        walk_at "gs"
        refine g_alike (n := 2) (hS' ▸ dn) (dn_tab hY2 h3 (by walk_at "mem") (by omega) (Hd.sb h3 (by walk_at "sbx"))) ?_
        refine ⟨true, rfl, ?_⟩
        have h3 : Hd H3 (lstC D ys :: (Y2 ++ (agI o C dd :: (Z1 ++ (lstC a xs :: (Y ++ R)))))) := Hd.sb h3 (by walk_at "sbx")
        clear h2
        walk_at "gs"
        refine l_list (h3.sqL (by walk_at "mem")) (fun i σ H => ∃ (v6 v7 : Option V), σ = [some (.ref o), some (.ref a), some (.ref t), some (.bl true), some .non, some (.ref D), v6, v7] ∧ Hd H (lstC D ys :: (Y2 ++ (agI o C dd :: (Z1 ++ (lstC a xs :: (Y ++ R))))))) ⟨_, _, rfl, h3⟩ (fun i σ H _ h => by obtain ⟨_, _, _, h⟩ := h; exact h.sqL (by walk_at "mem")) ?_ ?_
        · rintro i x σ H4 hx ⟨v6, v7, rfl, h4⟩
          obtain ⟨k', m, tt, hk', hm, rfl, hrow⟩ := hY2.at_ keys_some hx (show Hd H4 (Y2 ++ _) from Hd.sb (A := Y2 ++ (lstC D ys :: (agI o C dd :: (Z1 ++ (lstC a xs :: (Y ++ R)))))) h4 (by walk_at "sbx"))
          have rowAt : ∀ {H' : Hp} {L' : List Cell}, Hd H' L' → Sb Y2 L' → SqT K H' tt (rowV k' m) := fun h s => hrow _ [] (by rw [List.append_nil]; exact h.sb s)
          have hr4 := rowAt h4 (by walk_at "sbx")
          clear h3
          walk_at "gs"
          refine g_mbI hb'' hm (show Hd H4 (agI o C dd :: (Z1 ++ (lstC D ys :: (Y2 ++ (lstC a xs :: (Y ++ R)))))) from Hd.sb h4 (by walk_at "sbx")) ?_
          walk_at "gs"
          refine g_mbI (f := fun m => (m.age : Int)) hb'' hm (show Hd H4 (agI o C dd :: (Z1 ++ (lstC D ys :: (Y2 ++ (lstC a xs :: (Y ++ R)))))) from Hd.sb h4 (by walk_at "sbx")) ?_
          walk_at "gs"
          rename_i pa0 H5 h5
          have hr5 := rowAt h5 (by walk_at "sbx")
          clear h4
          refine w_methK ?_
          walk_at "gs"
          refine g_methK (fs := [("_members", .ref dd)]) h5 (by walk_at "mem") rfl ?_
          walk_at "gs"
          refine ⟨rfl, ?_⟩
          refine g_mbI hb'' hm (show Hd H5 (agI o C dd :: (Z1 ++ (lstC pa0 [.int (effI m), .int m.age] :: lstC D ys :: (Y2 ++ (lstC a xs :: (Y ++ R)))))) from Hd.sb h5 (by walk_at "sbx")) ?_
          walk_at "gs"
          refine w_methK ?_
          walk_at "gs"
          refine g_methK (fs := [("_members", .ref dd)]) h5 (by walk_at "mem") rfl ?_
          walk_at "gs"
          refine ⟨rfl, ?_⟩
          refine g_mbI (f := fun m => (m.age : Int)) hb'' hm (show Hd H5 (agI o C dd :: (Z1 ++ (lstC pa0 [.int (effI m), .int m.age] :: lstC D ys :: (Y2 ++ (lstC a xs :: (Y ++ R)))))) from Hd.sb h5 (by walk_at "sbx")) ?_
          walk_at "gs"
          rename_i pa H55 h55
          have hr55 := rowAt h55 (by walk_at "sbx")
          clear h5
          walk_at "gs"
          rename_i pm H6 h6
          have h6 : Hd H6 (lstC pm [.int (effI m), .int m.age] :: lstC pa [.int (effI m), .int m.age] :: _) := h6
          have hr6 := rowAt h6 (by walk_at "sbx")
          have d1 : Dn K [] H6 2 (.ref pm) (.list [.int (effI m), .int m.age]) := .inr (.inl ⟨pm, [.int (effI m), .int m.age], _, rfl, rfl, List.not_mem_nil, h6.sqL (by walk_at "mem"), (show 2 ≤ 100000 by decide), .cons Dn.int (.cons Dn.int .nil)⟩)
          have d2 : Dn K [] H6 2 (.ref pa) (.list [.int (effI m), .int m.age]) := .inr (.inl ⟨pa, [.int (effI m), .int m.age], _, rfl, rfl, List.not_mem_nil, h6.sqL (by walk_at "mem"), (show 2 ≤ 100000 by decide), .cons Dn.int (.cons Dn.int .nil)⟩)
          refine g_alike (n := 2) d1 d2 ?_
          refine ⟨true, rfl, ?_⟩
          walk_at "gs"
          obtain ⟨dx, ei⟩ := h6.ins (a := o) (C := C) (fs := [("_members", .ref dd)]) (by walk_at "mem")
          refine ⟨o, dx, _, rfl, ei, o, .int (k' : Int), "int", S', agI o C dd :: Z1, _, rfl, .int, hb'', show Hd H6 (agI o C dd :: (Z1 ++ _)) from Hd.sb (A := agI o C dd :: (Z1 ++ (lstC D ys :: (Y2 ++ (lstC a xs :: (Y ++ R)))))) h6 (by walk_at "sbx"), _, rfl, ?_⟩
          have hmem : memB S' (.int (k' : Int)) = true := by show (decide ((0 : Int) ≤ (k' : Int)) && (S' k').isSome) = true; rw [hm, decide_eq_true (by omega)]; rfl
          rw [hmem]
          walk_at "gs"
          exact ⟨_, _, rfl, Hd.sb (A := lstC D ys :: (Y2 ++ (agI o C dd :: (Z1 ++ (lstC a xs :: (Y ++ R)))))) h6 (by walk_at "sbx")⟩
        · rintro σ H4 ⟨v6, v7, rfl, h4⟩
          clear h3
          walk_at "gs"
          refine g_copyL (m := 1) h4 (h4.sqL (by walk_at "mem")) (by omega) (hY2 H4 (Hd.sb h4 (by walk_at "sbx"))) fun D4 acc Zc H5 hz h5 => ?_
          walk_at "gs"
          exact q D4 S' acc (agI o C dd :: Z1) Zc H5 hgood hdom hb'' hz (show Hd H5 (agI o C dd :: (Z1 ++ (lstC D4 acc :: (Zc ++ R)))) from Hd.sb h5 (by walk_at "sbx"))
      | false =>
        walk_at "gs"
        refine ⟨o, t, .wake k, S, Z, _, rfl, List.mem_cons_of_mem _ (List.mem_append_right _ ht), hb, hok, hh, fun r S' Z' H1 hout hb' h1 => ?_⟩
        clear hh
        have hgood := hout.good hG
        have hdom := hout.dom hok
        have hb'' := hb'
        obtain ⟨dd, Z1, tb, rfl⟩ := hb'
        have h1 : Hd H1 (agI o C dd :: (Z1 ++ (lstC a xs :: (Y ++ R)))) := h1
        obtain ⟨hrn, hS'⟩ : r = .non ∧ S' = stepS S (.wake k) := by
          rcases hout with ⟨e, _⟩ | ⟨_, e1, e2⟩
          · cases e
          · exact ⟨e1, e2⟩
        subst hrn
        walk_at "gs"
        refine ⟨o, S', _, _, rfl, hb'', h1, fun D ys Y2 H2 hyl hY2 h2 => ?_⟩
        have h2 : Hd H2 (lstC D ys :: (Y2 ++ (agI o C dd :: (Z1 ++ (lstC a xs :: (Y ++ R)))))) := h2
        have hY2 : RowsIn K S' (keys8 S') ys Y2 := hY2
        clear h1
        walk_at "gs"
        refine ⟨a, t, .wake k, S, xs, Y, lstC D ys :: (Y2 ++ (agI o C dd :: (Z1 ++ R))), rfl, hY, (fun z => by cases z), hok, hG, List.mem_cons_of_mem _ (List.mem_append_right _ (List.mem_cons_of_mem _ (List.mem_append_right _ ht))), Hd.sb h2 (by walk_at "sbx"), fun D2 H3 h3 dn => ?_⟩
        walk_at "gs"
        refine g_alike (n := 2) (hS' ▸ dn) (dn_tab hY2 h3 (by walk_at "mem") (by omega) (Hd.sb h3 (by walk_at "sbx"))) ?_
        refine ⟨true, rfl, ?_⟩
        have h3 : Hd H3 (lstC D ys :: (Y2 ++ (agI o C dd :: (Z1 ++ (lstC a xs :: (Y ++ R)))))) := Hd.sb h3 (by walk_at "sbx")
        clear h2
        walk_at "gs"
        refine l_list (h3.sqL (by walk_at "mem")) (fun i σ H => ∃ (v6 v7 : Option V), σ = [some (.ref o), some (.ref a), some (.ref t), some (.bl false), some .non, some (.ref D), v6, v7] ∧ Hd H (lstC D ys :: (Y2 ++ (agI o C dd :: (Z1 ++ (lstC a xs :: (Y ++ R))))))) ⟨_, _, rfl, h3⟩ (fun i σ H _ h => by obtain ⟨_, _, _, h⟩ := h; exact h.sqL (by walk_at "mem")) ?_ ?_
        · rintro i x σ H4 hx ⟨v6, v7, rfl, h4⟩
          obtain ⟨k', m, tt, hk', hm, rfl, hrow⟩ := hY2.at_ keys_some hx (show Hd H4 (Y2 ++ _) from Hd.sb (A := Y2 ++ (lstC D ys :: (agI o C dd :: (Z1 ++ (lstC a xs :: (Y ++ R)))))) h4 (by walk_at "sbx"))
          have rowAt : ∀ {H' : Hp} {L' : List Cell}, Hd H' L' → Sb Y2 L' → SqT K H' tt (rowV k' m) := fun h s => hrow _ [] (by rw [List.append_nil]; exact h.sb s)
          have hr4 := rowAt h4 (by walk_at "sbx")
          clear h3
          walk_at "gs"
          refine g_mbI hb'' hm (show Hd H4 (agI o C dd :: (Z1 ++ (lstC D ys :: (Y2 ++ (lstC a xs :: (Y ++ R)))))) from Hd.sb h4 (by walk_at "sbx")) ?_
          walk_at "gs"
          refine g_mbI (f := fun m => (m.age : Int)) hb'' hm (show Hd H4 (agI o C dd :: (Z1 ++ (lstC D ys :: (Y2 ++ (lstC a xs :: (Y ++ R)))))) from Hd.sb h4 (by walk_at "sbx")) ?_
          walk_at "gs"
          rename_i pa H5 h5
          have hr5 := rowAt h5 (by walk_at "sbx")
          clear h4
          walk_at "gs"
          rename_i pm H6 h6
          have h6 : Hd H6 (lstC pm [.int (effI m), .int m.age] :: lstC pa [.int (effI m), .int m.age] :: _) := h6
          have hr6 := rowAt h6 (by walk_at "sbx")
          have d1 : Dn K [] H6 2 (.ref pm) (.list [.int (effI m), .int m.age]) := .inr (.inl ⟨pm, [.int (effI m), .int m.age], _, rfl, rfl, List.not_mem_nil, h6.sqL (by walk_at "mem"), (show 2 ≤ 100000 by decide), .cons Dn.int (.cons Dn.int .nil)⟩)
          have d2 : Dn K [] H6 2 (.ref pa) (.list [.int (effI m), .int m.age]) := .inr (.inl ⟨pa, [.int (effI m), .int m.age], _, rfl, rfl, List.not_mem_nil, h6.sqL (by walk_at "mem"), (show 2 ≤ 100000 by decide), .cons Dn.int (.cons Dn.int .nil)⟩)
          refine g_alike (n := 2) d1 d2 ?_
          refine ⟨true, rfl, ?_⟩
          walk_at "gs"
          obtain ⟨dx, ei⟩ := h6.ins (a := o) (C := C) (fs := [("_members", .ref dd)]) (by walk_at "mem")
          refine ⟨o, dx, _, rfl, ei, o, .int (k' : Int), "int", S', agI o C dd :: Z1, _, rfl, .int, hb'', show Hd H6 (agI o C dd :: (Z1 ++ _)) from Hd.sb (A := agI o C dd :: (Z1 ++ (lstC D ys :: (Y2 ++ (lstC a xs :: (Y ++ R)))))) h6 (by walk_at "sbx"), _, rfl, ?_⟩
          have hmem : memB S' (.int (k' : Int)) = true := by show (decide ((0 : Int) ≤ (k' : Int)) && (S' k').isSome) = true; rw [hm, decide_eq_true (by omega)]; rfl
          rw [hmem]
          walk_at "gs"
          exact ⟨_, _, rfl, Hd.sb (A := lstC D ys :: (Y2 ++ (agI o C dd :: (Z1 ++ (lstC a xs :: (Y ++ R)))))) h6 (by walk_at "sbx")⟩
        · rintro σ H4 ⟨v6, v7, rfl, h4⟩
          clear h3
          walk_at "gs"
          refine g_copyL (m := 1) h4 (h4.sqL (by walk_at "mem")) (by omega) (hY2 H4 (Hd.sb h4 (by walk_at "sbx"))) fun D4 acc Zc H5 hz h5 => ?_
          walk_at "gs"
          exact q D4 S' acc (agI o C dd :: Z1) Zc H5 hgood hdom hb'' hz (show Hd H5 (agI o C dd :: (Z1 ++ (lstC D4 acc :: (Zc ++ R)))) from Hd.sb h5 (by walk_at "sbx"))
    | sleep k =>
      have ht : tupC t [V.str (Str.ofString "sleep"), V.int (k : Int)] ∈ R := ht
      cases nm with
      | true =>
        walk_at "gs"
        refine ⟨o, t, .sleep k, S, Z, _, rfl, (fun z => by cases z), List.mem_cons_of_mem _ (List.mem_append_right _ ht), hb, hok, hh, fun r S' Z' H1 hout hb' h1 => ?_⟩
        clear hh
        have hgood := hout.good hG
        have hdom := hout.dom hok
        have hb'' := hb'
        obtain ⟨dd, Z1, tb, rfl⟩ := hb'
        have h1 : Hd H1 (agI o C dd :: (Z1 ++ (lstC a xs :: (Y ++ R)))) := h1
        obtain ⟨hrn, hS'⟩ : r = .non ∧ S' = stepS S (.sleep k) := by
          rcases hout with ⟨e, _⟩ | ⟨_, e1, e2⟩
          · cases e
          · exact ⟨e1, e2⟩
        subst hrn
        walk_at "gs"
        refine ⟨o, S', _, _, rfl, hb'', h1, fun D ys Y2 H2 hyl hY2 h2 => ?_⟩
        have h2 : Hd H2 (lstC D ys :: (Y2 ++ (agI o C dd :: (Z1 ++ (lstC a xs :: (Y ++ R)))))) := h2
        have hY2 : RowsIn K S' (keys8 S') ys Y2 := hY2
        clear h1
        walk_at "gs"
        refine ⟨a, t, .sleep k, S, xs, Y, lstC D ys :: (Y2 ++ (agI o C dd :: (Z1 ++ R))), rfl, hY, (fun z => by cases z), hok, hG, List.mem_cons_of_mem _ (List.mem_append_right _ (List.mem_cons_of_mem _ (List.mem_append_right _ ht))), Hd.sb h2 (by walk_at "sbx"), fun D2 H3 h3 dn => ?_⟩
        walk_at "gs"
        refine g_alike (n := 2) (hS' ▸ dn) (dn_tab hY2 h3 (by walk_at "mem") (by omega) (Hd.sb h3 (by walk_at "sbx"))) ?_
        refine ⟨true, rfl, ?_⟩
        have h3 : Hd H3 (lstC D ys :: (Y2 ++ (agI o C dd :: (Z1 ++ (lstC a xs :: (Y ++ R)))))) := Hd.sb h3 (by walk_at "sbx")
        clear h2
        walk_at "gs"
        refine l_list (h3.sqL (by walk_at "mem")) (fun i σ H => ∃ (v6 v7 : Option V), σ = [some (.ref o), some (.ref a), some (.ref t), some (.bl true), some .non, some (.ref D), v6, v7] ∧ Hd H (lstC D ys :: (Y2 ++ (agI o C dd :: (Z1 ++ (lstC a xs :: (Y ++ R))))))) ⟨_, _, rfl, h3⟩ (fun i σ H _ h => by obtain ⟨_, _, _, h⟩ := h; exact h.sqL (by walk_at "mem")) ?_ ?_
        · rintro i x σ H4 hx ⟨v6, v7, rfl, h4⟩
          obtain ⟨k', m, tt, hk', hm, rfl, hrow⟩ := hY2.at_ keys_some hx (show Hd H4 (Y2 ++ _) from Hd.sb (A := Y2 ++ (lstC D ys :: (agI o C dd :: (Z1 ++ (lstC a xs :: (Y ++ R)))))) h4 (by walk_at "sbx"))
          have rowAt : ∀ {H' : Hp} {L' : List Cell}, Hd H' L' → Sb Y2 L' → SqT K H' tt (rowV k' m) := fun h s => hrow _ [] (by rw [List.append_nil]; exact h.sb s)
          have hr4 := rowAt h4 (by walk_at "sbx")
          clear h3
          walk_at "gs"
          refine g_mbI hb'' hm (show Hd H4 (agI o C dd :: (Z1 ++ (lstC D ys :: (Y2 ++ (lstC a xs :: (Y ++ R)))))) from Hd.sb h4 (by walk_at "sbx")) ?_
          walk_at "gs"
          refine g_mbI (f := fun m => (m.age : Int)) hb'' hm (show Hd H4 (agI o C dd :: (Z1 ++ (lstC D ys :: (Y2 ++ (lstC a xs :: (Y ++ R)))))) from Hd.sb h4 (by walk_at "sbx")) ?_
          walk_at "gs"
          rename_i pa0 H5 h5
          have hr5 := rowAt h5 (by walk_at "sbx")
          clear h4
          refine w_methK ?_
          walk_at "gs"
          refine g_methK (fs := [("_members", .ref dd)]) h5 (by walk_at "mem") rfl ?_
          walk_at "gs"
          refine ⟨rfl, ?_⟩
          refine g_mbI hb'' hm (show Hd H5 (agI o C dd :: (Z1 ++ (lstC pa0 [.int (effI m), .int m.age] :: lstC D ys :: (Y2 ++ (lstC a xs :: (Y ++ R)))))) from Hd.sb h5 (by walk_at "sbx")) ?_
          walk_at "gs"
          refine w_methK ?_
          walk_at "gs"
          refine g_methK (fs := [("_members", .ref dd)]) h5 (by walk_at "mem") rfl ?_
          walk_at "gs"
          refine ⟨rfl, ?_⟩
          refine g_mbI (f := fun m => (m.age : Int)) hb'' hm (show Hd H5 (agI o C dd :: (Z1 ++ (lstC pa0 [.int (effI m), .int m.age] :: lstC D ys :: (Y2 ++ (lstC a xs :: (Y ++ R)))))) from Hd.sb h5 (by walk_at "sbx")) ?_
          walk_at "gs"
          rename_i pa H55 h55
          have hr55 := rowAt h55 (by walk_at "sbx")
          clear h5
          walk_at "gs"
          rename_i pm H6 h6
          have h6 : Hd H6 (lstC pm [.int (effI m), .int m.age] :: lstC pa [.int (effI m), .int m.age] :: _) := h6
          have hr6 := rowAt h6 (by walk_at "sbx")
          have d1 : Dn K [] H6 2 (.ref pm) (.list [.int (effI m), .int m.age]) := .inr (.inl ⟨pm, [.int (effI m), .int m.age], _, rfl, rfl, List.not_mem_nil, h6.sqL (by walk_at "mem"), (show 2 ≤ 100000 by decide), .cons Dn.int (.cons Dn.int .nil)⟩)
          have d2 : Dn K [] H6 2 (.ref pa) (.list [.int (effI m), .int m.age]) := .inr (.inl ⟨pa, [.int (effI m), .int m.age], _, rfl, rfl, List.not_mem_nil, h6.sqL (by walk_at "mem"), (show 2 ≤ 100000 by decide), .cons Dn.int (.cons Dn.int .nil)⟩)
          refine g_alike (n := 2) d1 d2 ?_
          refine ⟨true, rfl, ?_⟩
          walk_at "gs"
          obtain ⟨dx, ei⟩ := h6.ins (a := o) (C := C) (fs := [("_members", .ref dd)]) (by walk_at "mem")
          refine ⟨o, dx, _, rfl, ei, o, .int (k' : Int), "int", S', agI o C dd :: Z1, _, rfl, .int, hb'', show Hd H6 (agI o C dd :: (Z1 ++ _)) from Hd.sb (A := agI o C dd :: (Z1 ++ (lstC D ys :: (Y2 ++ (lstC a xs :: (Y ++ R)))))) h6 (by walk_at "sbx"), _, rfl, ?_⟩
          have hmem : memB S' (.int (k' : Int)) = true := by show (decide ((0 : Int) ≤ (k' : Int)) && (S' k').isSome) = true; rw [hm, decide_eq_true (by omega)]; rfl
          rw [hmem]
          walk_at "gs"
          exact ⟨_, _, rfl, Hd.sb (A := lstC D ys :: (Y2 ++ (agI o C dd :: (Z1 ++ (lstC a xs :: (Y ++ R)))))) h6 (by walk_at "sbx")⟩
        · rintro σ H4 ⟨v6, v7, rfl, h4⟩
          clear h3
          walk_at "gs"
          refine g_copyL (m := 1) h4 (h4.sqL (by walk_at "mem")) (by omega) (hY2 H4 (Hd.sb h4 (by walk_at "sbx"))) fun D4 acc Zc H5 hz h5 => ?_
          walk_at "gs"
          exact q D4 S' acc (agI o C dd :: Z1) Zc H5 hgood hdom hb'' hz (show Hd H5 (agI o C dd :: (Z1 ++ (lstC D4 acc :: (Zc ++ R)))) from Hd.sb h5 (by walk_at "sbx"))
      | false =>
        walk_at "gs"
        refine ⟨o, t, .sleep k, S, Z, _, rfl, List.mem_cons_of_mem _ (List.mem_append_right _ ht), hb, hok, hh, fun r S' Z' H1 hout hb' h1 => ?_⟩
        clear hh
        have hgood := hout.good hG
        have hdom := hout.dom hok
        have hb'' := hb'
        obtain ⟨dd, Z1, tb, rfl⟩ := hb'
        have h1 : Hd H1 (agI o C dd :: (Z1 ++ (lstC a xs :: (Y ++ R)))) := h1
        obtain ⟨hrn, hS'⟩ : r = .non ∧ S' = stepS S (.sleep k) := by
          rcases hout with ⟨e, _⟩ | ⟨_, e1, e2⟩
          · cases e
          · exact ⟨e1, e2⟩
        subst hrn
        walk_at "gs"
        refine ⟨o, S', _, _, rfl, hb'', h1, fun D ys Y2 H2 hyl hY2 h2 => ?_⟩
        have h2 : Hd H2 (lstC D ys :: (Y2 ++ (agI o C dd :: (Z1 ++ (lstC a xs :: (Y ++ R)))))) := h2
        have hY2 : RowsIn K S' (keys8 S') ys Y2 := hY2
        clear h1
        walk_at "gs"
        refine ⟨a, t, .sleep k, S, xs, Y, lstC D ys :: (Y2 ++ (agI o C dd :: (Z1 ++ R))), rfl, hY, (fun z => by cases z), hok, hG, List.mem_cons_of_mem _ (List.mem_append_right _ (List.mem_cons_of_mem _ (List.mem_append_right _ ht))), Hd.sb h2 (by walk_at "sbx"), fun D2 H3 h3 dn => ?_⟩
        walk_at "gs"
        refine g_alike (n := 2) (hS' ▸ dn) (dn_tab hY2 h3 (by walk_at "mem") (by omega) (Hd.sb h3 (by walk_at "sbx"))) ?_
        refine ⟨true, rfl, ?_⟩
        have h3 : Hd H3 (lstC D ys :: (Y2 ++ (agI o C dd :: (Z1 ++ (lstC a xs :: (Y ++ R)))))) := Hd.sb h3 (by walk_at "sbx")
        clear h2
        walk_at "gs"
        refine l_list (h3.sqL (by walk_at "mem")) (fun i σ H => ∃ (v6 v7 : Option V), σ = [some (.ref o), some (.ref a), some (.ref t), some (.bl false), some .non, some (.ref D), v6, v7] ∧ Hd H (lstC D ys :: (Y2 ++ (agI o C dd :: (Z1 ++ (lstC a xs :: (Y ++ R))))))) ⟨_, _, rfl, h3⟩ (fun i σ H _ h => by obtain ⟨_, _, _, h⟩ := h; exact h.sqL (by walk_at "mem")) ?_ ?_
        · rintro i x σ H4 hx ⟨v6, v7, rfl, h4⟩
          obtain ⟨k', m, tt, hk', hm, rfl, hrow⟩ := hY2.at_ keys_some hx (show Hd H4 (Y2 ++ _) from Hd.sb (A := Y2 ++ (lstC D ys :: (agI o C dd :: (Z1 ++ (lstC a xs :: (Y ++ R)))))) h4 (by walk_at "sbx"))
          have rowAt : ∀ {H' : Hp} {L' : List Cell}, Hd H' L' → Sb Y2 L' → SqT K H' tt (rowV k' m) := fun h s => hrow _ [] (by rw [List.append_nil]; exact h.sb s)
          have hr4 := rowAt h4 (by walk_at "sbx")
          clear h3
          walk_at "gs"
          refine g_mbI hb'' hm (show Hd H4 (agI o C dd :: (Z1 ++ (lstC D ys :: (Y2 ++ (lstC a xs :: (Y ++ R)))))) from Hd.sb h4 (by walk_at "sbx")) ?_
          walk_at "gs"
          refine g_mbI (f := fun m => (m.age : Int)) hb'' hm (show Hd H4 (agI o C dd :: (Z1 ++ (lstC D ys :: (Y2 ++ (lstC a xs :: (Y ++ R)))))) from Hd.sb h4 (by walk_at "sbx")) ?_
          walk_at "gs"
          rename_i pa H5 h5
          have hr5 := rowAt h5 (by walk_at "sbx")
          clear h4
          walk_at "gs"
          rename_i pm H6 h6
          have h6 : Hd H6 (lstC pm [.int (effI m), .int m.age] :: lstC pa [.int (effI m), .int m.age] :: _) := h6
          have hr6 := rowAt h6 (by walk_at "sbx")
          have d1 : Dn K [] H6 2 (.ref pm) (.list [.int (effI m), .int m.age]) := .inr (.inl ⟨pm, [.int (effI m), .int m.age], _, rfl, rfl, List.not_mem_nil, h6.sqL (by walk_at "mem"), (show 2 ≤ 100000 by decide), .cons Dn.int (.cons Dn.int .nil)⟩)
          have d2 : Dn K [] H6 2 (.ref pa) (.list [.int (effI m), .int m.age]) := .inr (.inl ⟨pa, [.int (effI m), .int m.age], _, rfl, rfl, List.not_mem_nil, h6.sqL (by walk_at "mem"), (show 2 ≤ 100000 by decide), .cons Dn.int (.cons Dn.int .nil)⟩)
          refine g_alike (n := 2) d1 d2 ?_
          refine ⟨true, rfl, ?_⟩
          walk_at "gs"
          obtain ⟨dx, ei⟩ := h6.ins (a := o) (C := C) (fs := [("_members", .ref dd)]) (by walk_at "mem")
          refine ⟨o, dx, _, rfl, ei, o, .int (k' : Int), "int", S', agI o C dd :: Z1, _, rfl, .int, hb'', show Hd H6 (agI o C dd :: (Z1 ++ _)) from Hd.sb (A := agI o C dd :: (Z1 ++ (lstC D ys :: (Y2 ++ (lstC a xs :: (Y ++ R)))))) h6 (by walk_at "sbx"), _, rfl, ?_⟩
          have hmem : memB S' (.int (k' : Int)) = true := by show (decide ((0 : Int) ≤ (k' : Int)) && (S' k').isSome) = true; rw [hm, decide_eq_true (by omega)]; rfl
          rw [hmem]
          walk_at "gs"
          exact ⟨_, _, rfl, Hd.sb (A := lstC D ys :: (Y2 ++ (agI o C dd :: (Z1 ++ (lstC a xs :: (Y ++ R)))))) h6 (by walk_at "sbx")⟩
        · rintro σ H4 ⟨v6, v7, rfl, h4⟩
          clear h3
          walk_at "gs"
          refine g_copyL (m := 1) h4 (h4.sqL (by walk_at "mem")) (by omega) (hY2 H4 (Hd.sb h4 (by walk_at "sbx"))) fun D4 acc Zc H5 hz h5 => ?_
          walk_at "gs"
          exact q D4 S' acc (agI o C dd :: Z1) Zc H5 hgood hdom hb'' hz (show Hd H5 (agI o C dd :: (Z1 ++ (lstC D4 acc :: (Zc ++ R)))) from Hd.sb h5 (by walk_at "sbx"))
    | lend k p =>
      have ht : tupC t [V.str (Str.ofString "lend"), V.int (k : Int), V.int (p : Int)] ∈ R := ht
      cases nm with
      | true =>
        walk_at "gs"
        refine ⟨o, t, .lend k p, S, Z, _, rfl, (fun z => by cases z), List.mem_cons_of_mem _ (List.mem_append_right _ ht), hb, hok, hh, fun r S' Z' H1 hout hb' h1 => ?_⟩
        clear hh
        have hgood := hout.good hG
        have hdom := hout.dom hok
        have hb'' := hb'
        obtain ⟨dd, Z1, tb, rfl⟩ := hb'
        have h1 : Hd H1 (agI o C dd :: (Z1 ++ (lstC a xs :: (Y ++ R)))) := h1
        obtain ⟨hrn, hS'⟩ : r = .non ∧ S' = stepS S (.lend k p) := by
          rcases hout with ⟨e, _⟩ | ⟨_, e1, e2⟩
          · cases e
          · exact ⟨e1, e2⟩
        subst hrn
        walk_at "gs"
        refine ⟨o, S', _, _, rfl, hb'', h1, fun D ys Y2 H2 hyl hY2 h2 => ?_⟩
        have h2 : Hd H2 (lstC D ys :: (Y2 ++ (agI o C dd :: (Z1 ++ (lstC a xs :: (Y ++ R)))))) := h2
        have hY2 : RowsIn K S' (keys8 S') ys Y2 := hY2
        clear h1
        walk_at "gs"
        refine ⟨a, t, .lend k p, S, xs, Y, lstC D ys :: (Y2 ++ (agI o C dd :: (Z1 ++ R))), rfl, hY, (fun z => by cases z), hok, hG, List.mem_cons_of_mem _ (List.mem_append_right _ (List.mem_cons_of_mem _ (List.mem_append_right _ ht))), Hd.sb h2 (by walk_at "sbx"), fun D2 H3 h3 dn => ?_⟩
        walk_at "gs"
        refine g_alike (n := 2) (hS' ▸ dn) (dn_tab hY2 h3 (by walk_at "mem") (by omega) (Hd.sb h3 (by walk_at "sbx"))) ?_
        refine ⟨true, rfl, ?_⟩
        have h3 : Hd H3 (lstC D ys :: (Y2 ++ (agI o C dd :: (Z1 ++ (lstC a xs :: (Y ++ R)))))) := Hd.sb h3 (by walk_at "sbx")
        clear h2
        walk_at "gs"
        refine l_list (h3.sqL (by walk_at "mem")) (fun i σ H => ∃ (v6 v7 : Option V), σ = [some (.ref o), some (.ref a), some (.ref t), some (.bl true), some .non, some (.ref D), v6, v7] ∧ Hd H (lstC D ys :: (Y2 ++ (agI o C dd :: (Z1 ++ (lstC a xs :: (Y ++ R))))))) ⟨_, _, rfl, h3⟩ (fun i σ H _ h => by obtain ⟨_, _, _, h⟩ := h; exact h.sqL (by walk_at "mem")) ?_ ?_
        · rintro i x σ H4 hx ⟨v6, v7, rfl, h4⟩
          obtain ⟨k', m, tt, hk', hm, rfl, hrow⟩ := hY2.at_ keys_some hx (show Hd H4 (Y2 ++ _) from Hd.sb (A := Y2 ++ (lstC D ys :: (agI o C dd :: (Z1 ++ (lstC a xs :: (Y ++ R)))))) h4 (by walk_at "sbx"))
          have rowAt : ∀ {H' : Hp} {L' : List Cell}, Hd H' L' → Sb Y2 L' → SqT K H' tt (rowV k' m) := fun h s => hrow _ [] (by rw [List.append_nil]; exact h.sb s)
          have hr4 := rowAt h4 (by walk_at "sbx")
          clear h3
          walk_at "gs"
          refine g_mbI hb'' hm (show Hd H4 (agI o C dd :: (Z1 ++ (lstC D ys :: (Y2 ++ (lstC a xs :: (Y ++ R)))))) from Hd.sb h4 (by walk_at "sbx")) ?_
          walk_at "gs"
          refine g_mbI (f := fun m => (m.age : Int)) hb'' hm (show Hd H4 (agI o C dd :: (Z1 ++ (lstC D ys :: (Y2 ++ (lstC a xs :: (Y ++ R)))))) from Hd.sb h4 (by walk_at "sbx")) ?_
          walk_at "gs"
          rename_i pa0 H5 h5
          have hr5 := rowAt h5 (by walk_at "sbx")
          clear h4
          refine w_methK ?_
          walk_at "gs"
          refine g_methK (fs := [("_members", .ref dd)]) h5 (by walk_at "mem") rfl ?_
          walk_at "gs"
          refine ⟨rfl, ?_⟩
          refine g_mbI hb'' hm (show Hd H5 (agI o C dd :: (Z1 ++ (lstC pa0 [.int (effI m), .int m.age] :: lstC D ys :: (Y2 ++ (lstC a xs :: (Y ++ R)))))) from Hd.sb h5 (by walk_at "sbx")) ?_
          walk_at "gs"
          refine w_methK ?_
          walk_at "gs"
          refine g_methK (fs := [("_members", .ref dd)]) h5 (by walk_at "mem") rfl ?_
          walk_at "gs"
          refine ⟨rfl, ?_⟩
          refine g_mbI (f := fun m => (m.age : Int)) hb'' hm (show Hd H5 (agI o C dd :: (Z1 ++ (lstC pa0 [.int (effI m), .int m.age] :: lstC D ys :: (Y2 ++ (lstC a xs :: (Y ++ R)))))) from Hd.sb h5 (by walk_at "sbx")) ?_
          walk_at "gs"
          rename_i pa H55 h55
          have hr55 := rowAt h55 (by walk_at "sbx")
          clear h5
          walk_at "gs"
          rename_i pm H6 h6
          have h6 : Hd H6 (lstC pm [.int (effI m), .int m.age] :: lstC pa [.int (effI m), .int m.age] :: _) := h6
          have hr6 := rowAt h6 (by walk_at "sbx")
          have d1 : Dn K [] H6 2 (.ref pm) (.list [.int (effI m), .int m.age]) := .inr (.inl ⟨pm, [.int (effI m), .int m.age], _, rfl, rfl, List.not_mem_nil, h6.sqL (by walk_at "mem"), (show 2 ≤ 100000 by decide), .cons Dn.int (.cons Dn.int .nil)⟩)
          have d2 : Dn K [] H6 2 (.ref pa) (.list [.int (effI m), .int m.age]) := .inr (.inl ⟨pa, [.int (effI m), .int m.age], _, rfl, rfl, List.not_mem_nil, h6.sqL (by walk_at "mem"), (show 2 ≤ 100000 by decide), .cons Dn.int (.cons Dn.int .nil)⟩)
          refine g_alike (n := 2) d1 d2 ?_
          refine ⟨true, rfl, ?_⟩
          walk_at "gs"
          obtain ⟨dx, ei⟩ := h6.ins (a := o) (C := C) (fs := [("_members", .ref dd)]) (by walk_at "mem")
          refine ⟨o, dx, _, rfl, ei, o, .int (k' : Int), "int", S', agI o C dd :: Z1, _, rfl, .int, hb'', show Hd H6 (agI o C dd :: (Z1 ++ _)) from Hd.sb (A := agI o C dd :: (Z1 ++ (lstC D ys :: (Y2 ++ (lstC a xs :: (Y ++ R)))))) h6 (by walk_at "sbx"), _, rfl, ?_⟩
          have hmem : memB S' (.int (k' : Int)) = true := by show (decide ((0 : Int) ≤ (k' : Int)) && (S' k').isSome) = true; rw [hm, decide_eq_true (by omega)]; rfl
          rw [hmem]
          walk_at "gs"
          exact ⟨_, _, rfl, Hd.sb (A := lstC D ys :: (Y2 ++ (agI o C dd :: (Z1 ++ (lstC a xs :: (Y ++ R)))))) h6 (by walk_at "sbx")⟩
        · rintro σ H4 ⟨v6, v7, rfl, h4⟩
          clear h3
          walk_at "gs"
          refine g_copyL (m := 1) h4 (h4.sqL (by walk_at "mem")) (by omega) (hY2 H4 (Hd.sb h4 (by walk_at "sbx"))) fun D4 acc Zc H5 hz h5 => ?_
          walk_at "gs"
          exact q D4 S' acc (agI o C dd :: Z1) Zc H5 hgood hdom hb'' hz (show Hd H5 (agI o C dd :: (Z1 ++ (lstC D4 acc :: (Zc ++ R)))) from Hd.sb h5 (by walk_at "sbx"))
      | false =>
        walk_at "gs"
        refine ⟨o, t, .lend k p, S, Z, _, rfl, List.mem_cons_of_mem _ (List.mem_append_right _ ht), hb, hok, hh, fun r S' Z' H1 hout hb' h1 => ?_⟩
        clear hh
        have hgood := hout.good hG
        have hdom := hout.dom hok
        have hb'' := hb'
        obtain ⟨dd, Z1, tb, rfl⟩ := hb'
        have h1 : Hd H1 (agI o C dd :: (Z1 ++ (lstC a xs :: (Y ++ R)))) := h1
        obtain ⟨hrn, hS'⟩ : r = .non ∧ S' = stepS S (.lend k p) := by
          rcases hout with ⟨e, _⟩ | ⟨_, e1, e2⟩
          · cases e
          · exact ⟨e1, e2⟩
        subst hrn
        walk_at "gs"
        refine ⟨o, S', _, _, rfl, hb'', h1, fun D ys Y2 H2 hyl hY2 h2 => ?_⟩
        have h2 : Hd H2 (lstC D ys :: (Y2 ++ (agI o C dd :: (Z1 ++ (lstC a xs :: (Y ++ R)))))) := h2
        have hY2 : RowsIn K S' (keys8 S') ys Y2 := hY2
        clear h1
        walk_at "gs"
        refine ⟨a, t, .lend k p, S, xs, Y, lstC D ys :: (Y2 ++ (agI o C dd :: (Z1 ++ R))), rfl, hY, (fun z => by cases z), hok, hG, List.mem_cons_of_mem _ (List.mem_append_right _ (List.mem_cons_of_mem _ (List.mem_append_right _ ht))), Hd.sb h2 (by walk_at "sbx"), fun D2 H3 h3 dn => ?_⟩
        walk_at "gs"
        refine g_alike (n := 2) (hS' ▸ dn) (dn_tab hY2 h3 (by walk_at "mem") (by omega) (Hd.sb h3 (by walk_at "sbx"))) ?_
        refine ⟨true, rfl, ?_⟩
        have h3 : Hd H3 (lstC D ys :: (Y2 ++ (agI o C dd :: (Z1 ++ (lstC a xs :: (Y ++ R)))))) := Hd.sb h3 (by walk_at "sbx")
        clear h2
        walk_at "gs"
        refine l_list (h3.sqL (by walk_at "mem")) (fun i σ H => ∃ (v6 v7 : Option V), σ = [some (.ref o), some (.ref a), some (.ref t), some (.bl false), some .non, some (.ref D), v6, v7] ∧ Hd H (lstC D ys :: (Y2 ++ (agI o C dd :: (Z1 ++ (lstC a xs :: (Y ++ R))))))) ⟨_, _, rfl, h3⟩ (fun i σ H _ h => by obtain ⟨_, _, _, h⟩ := h; exact h.sqL (by walk_at "mem")) ?_ ?_
        · rintro i x σ H4 hx ⟨v6, v7, rfl, h4⟩
          obtain ⟨k', m, tt, hk', hm, rfl, hrow⟩ := hY2.at_ keys_some hx (show Hd H4 (Y2 ++ _) from Hd.sb (A := Y2 ++ (lstC D ys :: (agI o C dd :: (Z1 ++ (lstC a xs :: (Y ++ R)))))) h4 (by walk_at "sbx"))
          have rowAt : ∀ {H' : Hp} {L' : List Cell}, Hd H' L' → Sb Y2 L' → SqT K H' tt (rowV k' m) := fun h s => hrow _ [] (by rw [List.append_nil]; exact h.sb s)
          have hr4 := rowAt h4 (by walk_at "sbx")
          clear h3
          walk_at "gs"
          refine g_mbI hb'' hm (show Hd H4 (agI o C dd :: (Z1 ++ (lstC D ys :: (Y2 ++ (lstC a xs :: (Y ++ R)))))) from Hd.sb h4 (by walk_at "sbx")) ?_
          walk_at "gs"
          refine g_mbI (f := fun m => (m.age : Int)) hb'' hm (show Hd H4 (agI o C dd :: (Z1 ++ (lstC D ys :: (Y2 ++ (lstC a xs :: (Y ++ R)))))) from Hd.sb h4 (by walk_at "sbx")) ?_
          walk_at "gs"
          rename_i pa H5 h5
          have hr5 := rowAt h5 (by walk_at "sbx")
          clear h4
          walk_at "gs"
          rename_i pm H6 h6
          have h6 : Hd H6 (lstC pm [.int (effI m), .int m.age] :: lstC pa [.int (effI m), .int m.age] :: _) := h6
          have hr6 := rowAt h6 (by walk_at "sbx")
          have d1 : Dn K [] H6 2 (.ref pm) (.list [.int (effI m), .int m.age]) := .inr (.inl ⟨pm, [.int (effI m), .int m.age], _, rfl, rfl, List.not_mem_nil, h6.sqL (by walk_at "mem"), (show 2 ≤ 100000 by decide), .cons Dn.int (.cons Dn.int .nil)⟩)
          have d2 : Dn K [] H6 2 (.ref pa) (.list [.int (effI m), .int m.age]) := .inr (.inl ⟨pa, [.int (effI m), .int m.age], _, rfl, rfl, List.not_mem_nil, h6.sqL (by walk_at "mem"), (show 2 ≤ 100000 by decide), .cons Dn.int (.cons Dn.int .nil)⟩)
          refine g_alike (n := 2) d1 d2 ?_
          refine ⟨true, rfl, ?_⟩
          walk_at "gs"
          obtain ⟨dx, ei⟩ := h6.ins (a := o) (C := C) (fs := [("_members", .ref dd)]) (by walk_at "mem")
          refine ⟨o, dx, _, rfl, ei, o, .int (k' : Int), "int", S', agI o C dd :: Z1, _, rfl, .int, hb'', show Hd H6 (agI o C dd :: (Z1 ++ _)) from Hd.sb (A := agI o C dd :: (Z1 ++ (lstC D ys :: (Y2 ++ (lstC a xs :: (Y ++ R)))))) h6 (by walk_at "sbx"), _, rfl, ?_⟩
          have hmem : memB S' (.int (k' : Int)) = true := by show (decide ((0 : Int) ≤ (k' : Int)) && (S' k').isSome) = true; rw [hm, decide_eq_true (by omega)]; rfl
          rw [hmem]
          walk_at "gs"
          exact ⟨_, _, rfl, Hd.sb (A := lstC D ys :: (Y2 ++ (agI o C dd :: (Z1 ++ (lstC a xs :: (Y ++ R)))))) h6 (by walk_at "sbx")⟩
        · rintro σ H4 ⟨v6, v7, rfl, h4⟩
          clear h3
          walk_at "gs"
          refine g_copyL (m := 1) h4 (h4.sqL (by walk_at "mem")) (by omega) (hY2 H4 (Hd.sb h4 (by walk_at "sbx"))) fun D4 acc Zc H5 hz h5 => ?_
          walk_at "gs"
          exact q D4 S' acc (agI o C dd :: Z1) Zc H5 hgood hdom hb'' hz (show Hd H5 (agI o C dd :: (Z1 ++ (lstC D4 acc :: (Zc ++ R)))) from Hd.sb h5 (by walk_at "sbx"))
    | enter k p rb =>
      have ht : tupC t [V.str (Str.ofString "enter"), V.int (k : Int), V.int (p : Int), V.bl rb] ∈ R := ht
      cases nm with
      | true =>
        walk_at "gs"
        refine ⟨o, t, .enter k p rb, S, Z, _, rfl, (fun z => by cases z), List.mem_cons_of_mem _ (List.mem_append_right _ ht), hb, hok, hh, fun r S' Z' H1 hout hb' h1 => ?_⟩
        clear hh
        have hgood := hout.good hG
        have hdom := hout.dom hok
        have hb'' := hb'
        obtain ⟨dd, Z1, tb, rfl⟩ := hb'
        have h1 : Hd H1 (agI o C dd :: (Z1 ++ (lstC a xs :: (Y ++ R)))) := h1
        obtain ⟨hrn, hS'⟩ : r = .non ∧ S' = stepS S (.enter k p rb) := by
          rcases hout with ⟨e, _⟩ | ⟨_, e1, e2⟩
          · cases e
          · exact ⟨e1, e2⟩
        subst hrn
        walk_at "gs"
        refine ⟨o, S', _, _, rfl, hb'', h1, fun D ys Y2 H2 hyl hY2 h2 => ?_⟩
        have h2 : Hd H2 (lstC D ys :: (Y2 ++ (agI o C dd :: (Z1 ++ (lstC a xs :: (Y ++ R)))))) := h2
        have hY2 : RowsIn K S' (keys8 S') ys Y2 := hY2
        clear h1
        walk_at "gs"
        refine ⟨a, t, .enter k p rb, S, xs, Y, lstC D ys :: (Y2 ++ (agI o C dd :: (Z1 ++ R))), rfl, hY, (fun z => by cases z), hok, hG, List.mem_cons_of_mem _ (List.mem_append_right _ (List.mem_cons_of_mem _ (List.mem_append_right _ ht))), Hd.sb h2 (by walk_at "sbx"), fun D2 H3 h3 dn => ?_⟩
        walk_at "gs"
        refine g_alike (n := 2) (hS' ▸ dn) (dn_tab hY2 h3 (by walk_at "mem") (by omega) (Hd.sb h3 (by walk_at "sbx"))) ?_
        refine ⟨true, rfl, ?_⟩
        have h3 : Hd H3 (lstC D ys :: (Y2 ++ (agI o C dd :: (Z1 ++ (lstC a xs :: (Y ++ R)))))) := Hd.sb h3 (by walk_at "sbx")
        clear h2
        walk_at "gs"
        refine l_list (h3.sqL (by walk_at "mem")) (fun i σ H => ∃ (v6 v7 : Option V), σ = [some (.ref o), some (.ref a), some (.ref t), some (.bl true), some .non, some (.ref D), v6, v7] ∧ Hd H (lstC D ys :: (Y2 ++ (agI o C dd :: (Z1 ++ (lstC a xs :: (Y ++ R))))))) ⟨_, _, rfl, h3⟩ (fun i σ H _ h => by obtain ⟨_, _, _, h⟩ := h; exact h.sqL (by walk_at "mem")) ?_ ?_
        · rintro i x σ H4 hx ⟨v6, v7, rfl, h4⟩
          obtain ⟨k', m, tt, hk', hm, rfl, hrow⟩ := hY2.at_ keys_some hx (show Hd H4 (Y2 ++ _) from Hd.sb (A := Y2 ++ (lstC D ys :: (agI o C dd :: (Z1 ++ (lstC a xs :: (Y ++ R)))))) h4 (by walk_at "sbx"))
          have rowAt : ∀ {H' : Hp} {L' : List Cell}, Hd H' L' → Sb Y2 L' → SqT K H' tt (rowV k' m) := fun h s => hrow _ [] (by rw [List.append_nil]; exact h.sb s)
          have hr4 := rowAt h4 (by walk_at "sbx")
          clear h3
          walk_at "gs"
          refine g_mbI hb'' hm (show Hd H4 (agI o C dd :: (Z1 ++ (lstC D ys :: (Y2 ++ (lstC a xs :: (Y ++ R)))))) from Hd.sb h4 (by walk_at "sbx")) ?_
          walk_at "gs"
          refine g_mbI (f := fun m => (m.age : Int)) hb'' hm (show Hd H4 (agI o C dd :: (Z1 ++ (lstC D ys :: (Y2 ++ (lstC a xs :: (Y ++ R)))))) from Hd.sb h4 (by walk_at "sbx")) ?_
          walk_at "gs"
          rename_i pa0 H5 h5
          have hr5 := rowAt h5 (by walk_at "sbx")
          clear h4
          refine w_methK ?_
          walk_at "gs"
          refine g_methK (fs := [("_members", .ref dd)]) h5 (by walk_at "mem") rfl ?_
          walk_at "gs"
          refine ⟨rfl, ?_⟩
          refine g_mbI hb'' hm (show Hd H5 (agI o C dd :: (Z1 ++ (lstC pa0 [.int (effI m), .int m.age] :: lstC D ys :: (Y2 ++ (lstC a xs :: (Y ++ R)))))) from Hd.sb h5 (by walk_at "sbx")) ?_
          walk_at "gs"
          refine w_methK ?_
          walk_at "gs"
          refine g_methK (fs := [("_members", .ref dd)]) h5 (by walk_at "mem") rfl ?_
          walk_at "gs"
          refine ⟨rfl, ?_⟩
          refine g_mbI (f := fun m => (m.age : Int)) hb'' hm (show Hd H5 (agI o C dd :: (Z1 ++ (lstC pa0 [.int (effI m), .int m.age] :: lstC D ys :: (Y2 ++ (lstC a xs :: (Y ++ R)))))) from Hd.sb h5 (by walk_at "sbx")) ?_
          walk_at "gs"
          rename_i pa H55 h55
          have hr55 := rowAt h55 (by walk_at "sbx")
          clear h5
          walk_at "gs"
          rename_i pm H6 h6
          have h6 : Hd H6 (lstC pm [.int (effI m), .int m.age] :: lstC pa [.int (effI m), .int m.age] :: _) := h6
          have hr6 := rowAt h6 (by walk_at "sbx")
          have d1 : Dn K [] H6 2 (.ref pm) (.list [.int (effI m), .int m.age]) := .inr (.inl ⟨pm, [.int (effI m), .int m.age], _, rfl, rfl, List.not_mem_nil, h6.sqL (by walk_at "mem"), (show 2 ≤ 100000 by decide), .cons Dn.int (.cons Dn.int .nil)⟩)
          have d2 : Dn K [] H6 2 (.ref pa) (.list [.int (effI m), .int m.age]) := .inr (.inl ⟨pa, [.int (effI m), .int m.age], _, rfl, rfl, List.not_mem_nil, h6.sqL (by walk_at "mem"), (show 2 ≤ 100000 by decide), .cons Dn.int (.cons Dn.int .nil)⟩)
          refine g_alike (n := 2) d1 d2 ?_
          refine ⟨true, rfl, ?_⟩
          walk_at "gs"
          obtain ⟨dx, ei⟩ := h6.ins (a := o) (C := C) (fs := [("_members", .ref dd)]) (by walk_at "mem")
          refine ⟨o, dx, _, rfl, ei, o, .int (k' : Int), "int", S', agI o C dd :: Z1, _, rfl, .int, hb'', show Hd H6 (agI o C dd :: (Z1 ++ _)) from Hd.sb (A := agI o C dd :: (Z1 ++ (lstC D ys :: (Y2 ++ (lstC a xs :: (Y ++ R)))))) h6 (by walk_at "sbx"), _, rfl, ?_⟩
          have hmem : memB S' (.int (k' : Int)) = true := by show (decide ((0 : Int) ≤ (k' : Int)) && (S' k').isSome) = true; rw [hm, decide_eq_true (by omega)]; rfl
          rw [hmem]
          walk_at "gs"
          exact ⟨_, _, rfl, Hd.sb (A := lstC D ys :: (Y2 ++ (agI o C dd :: (Z1 ++ (lstC a xs :: (Y ++ R)))))) h6 (by walk_at "sbx")⟩
        · rintro σ H4 ⟨v6, v7, rfl, h4⟩
          clear h3
          walk_at "gs"
          refine g_copyL (m := 1) h4 (h4.sqL (by walk_at "mem")) (by omega) (hY2 H4 (Hd.sb h4 (by walk_at "sbx"))) fun D4 acc Zc H5 hz h5 => ?_
          walk_at "gs"
          exact q D4 S' acc (agI o C dd :: Z1) Zc H5 hgood hdom hb'' hz (show Hd H5 (agI o C dd :: (Z1 ++ (lstC D4 acc :: (Zc ++ R)))) from Hd.sb h5 (by walk_at "sbx"))
      | false =>
        walk_at "gs"
        refine ⟨o, t, .enter k p rb, S, Z, _, rfl, List.mem_cons_of_mem _ (List.mem_append_right _ ht), hb, hok, hh, fun r S' Z' H1 hout hb' h1 => ?_⟩
        clear hh
        have hgood := hout.good hG
        have hdom := hout.dom hok
        have hb'' := hb'
        obtain ⟨dd, Z1, tb, rfl⟩ := hb'
        have h1 : Hd H1 (agI o C dd :: (Z1 ++ (lstC a xs :: (Y ++ R)))) := h1
        obtain ⟨hrn, hS'⟩ : r = .non ∧ S' = stepS S (.enter k p rb) := by
          rcases hout with ⟨e, _⟩ | ⟨_, e1, e2⟩
          · cases e
          · exact ⟨e1, e2⟩
        subst hrn
        walk_at "gs"
        refine ⟨o, S', _, _, rfl, hb'', h1, fun D ys Y2 H2 hyl hY2 h2 => ?_⟩
        have h2 : Hd H2 (lstC D ys :: (Y2 ++ (agI o C dd :: (Z1 ++ (lstC a xs :: (Y ++ R)))))) := h2
        have hY2 : RowsIn K S' (keys8 S') ys Y2 := hY2
        clear h1
        walk_at "gs"
        refine ⟨a, t, .enter k p rb, S, xs, Y, lstC D ys :: (Y2 ++ (agI o C dd :: (Z1 ++ R))), rfl, hY, (fun z => by cases z), hok, hG, List.mem_cons_of_mem _ (List.mem_append_right _ (List.mem_cons_of_mem _ (List.mem_append_right _ ht))), Hd.sb h2 (by walk_at "sbx"), fun D2 H3 h3 dn => ?_⟩
        walk_at "gs"
        refine g_alike (n := 2) (hS' ▸ dn) (dn_tab hY2 h3 (by walk_at "mem") (by omega) (Hd.sb h3 (by walk_at "sbx"))) ?_
        refine ⟨true, rfl, ?_⟩
        have h3 : Hd H3 (lstC D ys :: (Y2 ++ (agI o C dd :: (Z1 ++ (lstC a xs :: (Y ++ R)))))) := Hd.sb h3 (by walk_at "sbx")
        clear h2
        walk_at "gs"
        refine l_list (h3.sqL (by walk_at "mem")) (fun i σ H => ∃ (v6 v7 : Option V), σ = [some (.ref o), some (.ref a), some (.ref t), some (.bl false), some .non, some (.ref D), v6, v7] ∧ Hd H (lstC D ys :: (Y2 ++ (agI o C dd :: (Z1 ++ (lstC a xs :: (Y ++ R))))))) ⟨_, _, rfl, h3⟩ (fun i σ H _ h => by obtain ⟨_, _, _, h⟩ := h; exact h.sqL (by walk_at "mem")) ?_ ?_
        · rintro i x σ H4 hx ⟨v6, v7, rfl, h4⟩
          obtain ⟨k', m, tt, hk', hm, rfl, hrow⟩ := hY2.at_ keys_some hx (show Hd H4 (Y2 ++ _) from Hd.sb (A := Y2 ++ (lstC D ys :: (agI o C dd :: (Z1 ++ (lstC a xs :: (Y ++ R)))))) h4 (by walk_at "sbx"))
          have rowAt : ∀ {H' : Hp} {L' : List Cell}, Hd H' L' → Sb Y2 L' → SqT K H' tt (rowV k' m) := fun h s => hrow _ [] (by rw [List.append_nil]; exact h.sb s)
          have hr4 := rowAt h4 (by walk_at "sbx")
          clear h3
          walk_at "gs"
          refine g_mbI hb'' hm (show Hd H4 (agI o C dd :: (Z1 ++ (lstC D ys :: (Y2 ++ (lstC a xs :: (Y ++ R)))))) from Hd.sb h4 (by walk_at "sbx")) ?_
          walk_at "gs"
          refine g_mbI (f := fun m => (m.age : Int)) hb'' hm (show Hd H4 (agI o C dd :: (Z1 ++ (lstC D ys :: (Y2 ++ (lstC a xs :: (Y ++ R)))))) from Hd.sb h4 (by walk_at "sbx")) ?_
          walk_at "gs"
          rename_i pa H5 h5
          have hr5 := rowAt h5 (by walk_at "sbx")
          clear h4
          walk_at "gs"
          rename_i pm H6 h6
          have h6 : Hd H6 (lstC pm [.int (effI m), .int m.age] :: lstC pa [.int (effI m), .int m.age] :: _) := h6
          have hr6 := rowAt h6 (by walk_at "sbx")
          have d1 : Dn K [] H6 2 (.ref pm) (.list [.int (effI m), .int m.age]) := .inr (.inl ⟨pm, [.int (effI m), .int m.age], _, rfl, rfl, List.not_mem_nil, h6.sqL (by walk_at "mem"), (show 2 ≤ 100000 by decide), .cons Dn.int (.cons Dn.int .nil)⟩)
          have d2 : Dn K [] H6 2 (.ref pa) (.list [.int (effI m), .int m.age]) := .inr (.inl ⟨pa, [.int (effI m), .int m.age], _, rfl, rfl, List.not_mem_nil, h6.sqL (by walk_at "mem"), (show 2 ≤ 100000 by decide), .cons Dn.int (.cons Dn.int .nil)⟩)
          refine g_alike (n := 2) d1 d2 ?_
          refine ⟨true, rfl, ?_⟩
          walk_at "gs"
          obtain ⟨dx, ei⟩ := h6.ins (a := o) (C := C) (fs := [("_members", .ref dd)]) (by walk_at "mem")
          refine ⟨o, dx, _, rfl, ei, o, .int (k' : Int), "int", S', agI o C dd :: Z1, _, rfl, .int, hb'', show Hd H6 (agI o C dd :: (Z1 ++ _)) from Hd.sb (A := agI o C dd :: (Z1 ++ (lstC D ys :: (Y2 ++ (lstC a xs :: (Y ++ R)))))) h6 (by walk_at "sbx"), _, rfl, ?_⟩
          have hmem : memB S' (.int (k' : Int)) = true := by show (decide ((0 : Int) ≤ (k' : Int)) && (S' k').isSome) = true; rw [hm, decide_eq_true (by omega)]; rfl
          rw [hmem]
          walk_at "gs"
          exact ⟨_, _, rfl, Hd.sb (A := lstC D ys :: (Y2 ++ (agI o C dd :: (Z1 ++ (lstC a xs :: (Y ++ R)))))) h6 (by walk_at "sbx")⟩
        · rintro σ H4 ⟨v6, v7, rfl, h4⟩
          clear h3
          walk_at "gs"
          refine g_copyL (m := 1) h4 (h4.sqL (by walk_at "mem")) (by omega) (hY2 H4 (Hd.sb h4 (by walk_at "sbx"))) fun D4 acc Zc H5 hz h5 => ?_
          walk_at "gs"
          exact q D4 S' acc (agI o C dd :: Z1) Zc H5 hgood hdom hb'' hz (show Hd H5 (agI o C dd :: (Z1 ++ (lstC D4 acc :: (Zc ++ R)))) from Hd.sb h5 (by walk_at "sbx"))
end
end
end K23
set_option Elab.async false
set_option linter.all false
set_option maxRecDepth 100000
set_option maxHeartbeats 4000000
namespace K23
open PySem PySem.Spec PyProof.Rows L2 Wk
local macro_rules | `(tactic| walk_at "u1") => `(tactic| fail "no more")
local macro_rules | `(tactic| walk_at "pos") => `(tactic| first | assumption | omega | decide | (simp only [Int.ofNat_eq_natCast] at *; omega))
local macro_rules | `(tactic| walk_at "sz") => `(tactic| first
  | (simp only [List.length_cons, List.length_nil]; decide)
  | exact Evl.sz_of (by omega)
  | exact Evl.sz_lt (by omega)
  | exact Evl.sz_of (by simp only [List.length_map, List.length_append, List.length_cons, List.length_nil, List.length_replicate]; omega)
  | exact Evl.sz_lt (by simp only [List.length_map, List.length_append, List.length_cons, List.length_nil, List.length_replicate]; omega))
local macro_rules | `(tactic| walk_at "cond") => `(tactic| first
  | exact Or.inr ⟨by decide, by decide⟩
  | (show (0 : Int) < _; first | decide | assumption | omega)
  | exact Or.inl ⟨by omega, by omega⟩
  | exact Or.inr ⟨by omega, by omega⟩
  | exact ⟨by decide, by decide, by decide⟩
  | exact log2_lt (by omega) (by omega)
  | exact ⟨by omega, by omega⟩)
local macro_rules | `(tactic| walk_at "ty") => `(tactic| first
  | exact ty_int | exact ty_bl | exact ty_str | exact ty_non
  | exact ty_L (by assumption) | exact ty_T (by assumption)
  | exact ty_L (SqL.of (by assumption)) | exact ty_T (SqT.of (by assumption)))
local macro_rules | `(tactic| walk_at "kit") => `(tactic| first
  | exact k_ii | exact k_ib | exact k_is | exact k_il | exact k_it
  | exact k_bb | exact k_bi | exact k_bs | exact k_bl | exact k_bt
  | exact k_ss | exact k_sb | exact k_si | exact k_sl | exact k_st
  | exact k_ll | exact k_lb | exact k_li | exact k_ls | exact k_lt
  | exact k_tt | exact k_tb | exact k_ti | exact k_ts | exact k_tl
  | exact k_nn | exact k_ni | exact k_ns | exact k_nl | exact k_nt)
local macro_rules | `(tactic| walk_at "s1") => `(tactic| first
  | with_reducible refine w_seq ?_
  | with_reducible refine w_set ?_
  | with_reducible refine w_op ?_
  | ((with_reducible refine' w_var ?h1 ?_); (case h1 => rfl))
  | with_reducible refine w_c ?_
  | with_reducible refine w_cb ?_
  | with_reducible refine w_cons ?_
  | with_reducible refine w_nil ?_
  | with_reducible refine w_I0 ?_
  | ((with_reducible refine' w_I ?c1 ?_); case c1 => walk_at "cond")
  | with_reducible refine w_ret ?_
  | with_reducible refine w_next ?_
  | with_reducible refine w_ifS ?_
  | with_reducible refine w_test ?_
  | with_reducible refine w_tB ?_
  | with_reducible refine w_k ?_
  | with_reducible refine w_eqI ?_
  | with_reducible refine w_neI ?_
  | with_reducible refine w_eqS ?_
  | with_reducible refine w_neS ?_
  | with_reducible refine w_and ?_
  | with_reducible refine w_or ?_
  | with_reducible refine w_not ?_
  | with_reducible refine w_andV ?_
  | with_reducible refine w_orV ?_
  | with_reducible refine w_notV ?_
  | with_reducible refine w_ifE ?_
  | with_reducible refine w_true ?_
  | with_reducible refine w_false ?_
  | with_reducible refine w_ntrue ?_
  | with_reducible refine w_nfalse ?_
  | with_reducible refine w_call ?_
  | with_reducible refine c_int ?_
  | with_reducible refine c_abs ?_
  | with_reducible refine c_max ?_
  | with_reducible refine c_min ?_
  | with_reducible refine w_drop ?_
  | with_reducible refine w_sfld ?_
  | with_reducible refine w_meth ?_
  | with_reducible refine w_make ?_
  | with_reducible refine w_prop ?_
  | with_reducible refine w_callK ?_
  | with_reducible refine w_callN ?_
  | with_reducible refine w_star ?_
  | with_reducible refine w_gcons ?_
  | with_reducible refine w_gname ?_
  | with_reducible refine w_gnil ?_
  | with_reducible refine w_retN ?_
  | with_reducible refine w_tup ?_
  | with_reducible refine w_lst ?_
  | with_reducible refine w_fld ?_
  | with_reducible refine w_bm ?_
  | with_reducible refine w_bm0 ?_
  | with_reducible refine w_forL ?_
  | with_reducible refine w_forT ?_
  | with_reducible refine w_forS ?_
  | with_reducible refine w_forR ?_
  | with_reducible refine w_lcR ?_
  | with_reducible refine w_lcL ?_
  | with_reducible refine w_lcT ?_
  | with_reducible refine w_isN ?_
  | with_reducible refine w_notN ?_
  | with_reducible refine w_asg ?_
  | with_reducible refine w_gsub ?_
  | ((with_reducible refine' w_aug ?h1 ?_); (case h1 => rfl))
  | with_reducible refine w_augS ?_
  | with_reducible refine w_ipI ?_
  | with_reducible refine w_un ?_
  | with_reducible refine w_U ?_
  | ((with_reducible refine' w_iteF ?f1 ?_); case f1 => (first | (intro h; cases h; done) | decide))
  | ((with_reducible refine' w_iteT ?f1 ?_); case f1 => rfl)
  | ((with_reducible refine' w_iteNF ?f1 ?_); case f1 => rfl)
  | ((with_reducible refine' w_iteNT ?f1 ?_); case f1 => (first | (intro h; cases h; done) | decide))
  | ((with_reducible refine' c_isi ?t1 ?k1 ?_); (case t1 => walk_at "ty"); (case k1 => walk_at "kit"))
  | ((with_reducible refine' w_eq ?e1 ?_); case e1 => rfl)
  | ((with_reducible refine' w_ne ?e1 ?_); case e1 => rfl)
  | walk_at "u1")
local macro_rules | `(tactic| walk_at "s") => `(tactic| repeat walk_at "s1")
local macro_rules | `(tactic| walk_at "mem") => `(tactic| first | with_reducible exact List.mem_cons_self .. | ((with_reducible refine' List.mem_cons_of_mem _ ?q); (case q => walk_at "mem")) | assumption | ((with_reducible refine' List.mem_append_right _ ?q); (case q => walk_at "mem")) | (exact List.mem_append_left _ (by assumption)))
local macro_rules | `(tactic| walk_at "pk") => `(tactic| first | with_reducible exact Pk.here | ((with_reducible refine' Pk.there ?q); (case q => walk_at "pk")) | ((with_reducible refine' Pk.app ?q); (case q => walk_at "pk")))
local macro_rules | `(tactic| walk_at "pkb") => `(tactic| first | with_reducible exact PkB.here | ((with_reducible refine' PkB.there ?q); (case q => walk_at "pkb")) | ((with_reducible refine' PkB.app ?q); (case q => walk_at "pkb")))
local macro_rules | `(tactic| walk_at "spl") => `(tactic| first | with_reducible exact Spl.nil | ((with_reducible refine' Spl.cons ?h ?t); (case h => walk_at "pk"); (case t => walk_at "spl")) | ((with_reducible refine' Spl.blk ?h ?t); (case h => walk_at "pkb"); (case t => walk_at "spl")))
local macro_rules | `(tactic| walk_at "sbx") => `(tactic| first | with_reducible exact Sb.refl | with_reducible exact Sb.nil | with_reducible exact Sb.left | ((with_reducible refine' Sb.cons ?h ?t); (case h => walk_at "pk"); (case t => walk_at "sbx")) | ((with_reducible refine' Sb.blk ?h ?t); (case h => walk_at "pkb"); (case t => walk_at "sbx")) | ((with_reducible refine' Sb.drop ?q); (case q => walk_at "sbx")) | ((with_reducible refine' Sb.right ?q); (case q => walk_at "sbx")))
local macro_rules | `(tactic| walk_at "hd") => `(tactic| first | assumption | exact Hd.sb (by assumption) (by walk_at "sbx"))
local macro_rules | `(tactic| walk_at "sq") => `(tactic| first
  | assumption
  | exact Hd.sqL (by assumption) (by walk_at "mem")
  | exact Hd.sqT (by assumption) (by walk_at "mem")
  | exact Hd.sqF (by assumption) (by walk_at "mem")
  | (refine .inl ?_; walk_at "sq")
  | (refine .inr ?_; walk_at "sq"))
local macro_rules | `(tactic| walk_at "at") => `(tactic| first | rfl | assumption | exact atI_nat (by assumption))
local macro_rules | `(tactic| walk_at "dn1") => `(tactic| first
  | exact Dn.int | exact Dn.str | exact Dn.non | exact Dn.bl | assumption
  | ((refine' Dn.tp ?a1 ?m1 ?l1 ?p1); (case a1 => assumption); (case m1 => walk_at "mem"); (case l1 => (simp only [List.length_cons, List.length_nil]; omega)); (case p1 => walk_at "dns"))
  | ((refine' Dn.lt ?a1 ?m1 ?l1 ?p1); (case a1 => assumption); (case m1 => walk_at "mem"); (case l1 => (simp only [List.length_cons, List.length_nil]; omega)); (case p1 => walk_at "dns")))
local macro_rules | `(tactic| walk_at "dns") => `(tactic| first | exact Paired.nil | exact Dn.ints | ((refine' Paired.cons ?a1 ?b1); (case a1 => walk_at "dn1"); (case b1 => walk_at "dns")))
local macro_rules | `(tactic| walk_at "g1") => `(tactic| first
  | ((with_reducible refine' g_ixI ?h1 ?h2 ?h3 ?_); (case h1 => assumption); (case h2 => walk_at "mem"); (case h3 => omega); intro z hz)
  | ((with_reducible refine' g_ixIT ?h1 ?h2 ?h3 ?_); (case h1 => assumption); (case h2 => walk_at "mem"); (case h3 => omega); intro z hz)
  | ((with_reducible refine' g_setI ?h1 ?h2 ?h3 ?_); (case h1 => assumption); (case h2 => walk_at "pk"); (case h3 => omega); intro H2 hh2)
  | ((with_reducible refine' w_ixL ?h1 ?h2 ?_); (case h1 => walk_at "sq"); (case h2 => walk_at "at"))
  | ((with_reducible refine' w_ixT ?h1 ?h2 ?_); (case h1 => walk_at "sq"); (case h2 => walk_at "at"))
  | ((with_reducible refine' w_ixAny ?h1 ?h2 ?_); (case h1 => walk_at "sq"); (case h2 => walk_at "at"))
  | ((with_reducible refine' c_lenA ?h1 ?_); (case h1 => walk_at "sq"))
  | ((with_reducible refine' c_isi ?t1 ?k1 ?_); (case t1 => first | exact ty_T (by walk_at "sq") | exact ty_L (by walk_at "sq")); (case k1 => walk_at "kit"))
  | ((with_reducible refine' g_lst ?h1 ?h2 ?_); (case h1 => assumption); (case h2 => walk_at "sz"); intro p H2 hh2)
  | ((with_reducible refine' g_tup ?h1 ?h2 ?_); (case h1 => assumption); (case h2 => walk_at "sz"); intro p H2 hh2)
  | ((with_reducible refine' g_dict ?h1 ?_); (case h1 => assumption); intro p H2 hh2)
  | ((with_reducible refine' g_listL ?h1 ?h2 ?_); (case h1 => assumption); (case h2 => walk_at "sq"); intro p H2 hh2)
  | ((with_reducible refine' g_listT ?h1 ?h2 ?_); (case h1 => assumption); (case h2 => walk_at "sq"); intro p H2 hh2)
  | ((with_reducible refine' g_tupL ?h1 ?h2 ?_); (case h1 => assumption); (case h2 => walk_at "sq"); intro p H2 hh2)
  | ((with_reducible refine' g_set ?h1 ?h2 ?h3 ?_); (case h1 => assumption); (case h2 => walk_at "pk"); (case h3 => first | rfl | assumption | exact Evl.ixN_nat (by first | omega | (simp only [List.length_cons, List.length_nil]; omega))); intro H2 hh2)
  | ((with_reducible refine' g_kbm ?h1 ?h2 ?_); (case h1 => assumption); (case h2 => walk_at "mem"))
  | ((with_reducible refine' g_kbm0 ?h1 ?h2 ?_); (case h1 => assumption); (case h2 => walk_at "mem"))
  | ((with_reducible refine' g_app ?h1 ?h2 ?h3 ?_); (case h1 => assumption); (case h2 => walk_at "pk"); (case h3 => walk_at "sz"); intro H2 hh2)
  | ((with_reducible refine' g_kapp ?h1 ?h2 ?h3 ?_); (case h1 => assumption); (case h2 => walk_at "pk"); (case h3 => walk_at "sz"); intro H2 hh2)
  | ((with_reducible refine' g_fld ?h1 ?h2 ?h3 ?h4 ?h5 ?_); (case h1 => assumption); (case h2 => walk_at "mem"); (case h3 => assumption); (case h4 => assumption); (case h5 => rfl))
  | ((with_reducible refine' g_sfld ?h1 ?h2 ?h3 ?h4 ?h5 ?_); (case h1 => assumption); (case h2 => walk_at "pk"); (case h3 => assumption); (case h4 => assumption); (case h5 => decide); intro H2 hh2)
  | ((with_reducible refine' g_meth ?h1 ?h2 ?h3 ?_); (case h1 => assumption); (case h2 => walk_at "mem"); (case h3 => rfl))
  | ((with_reducible refine' g_prop ?h1 ?h2 ?_); (case h1 => assumption); (case h2 => walk_at "mem"))
  | ((with_reducible refine' g_make ?h1 ?_); (case h1 => assumption); intro x H2 hh2)
  | ((with_reducible refine' g_cat ?h1 ?h2 ?h3 ?h4 ?_); (case h1 => assumption); (case h2 => walk_at "mem"); (case h3 => walk_at "mem"); (case h4 => walk_at "sz"); intro p H2 hh2)
  | ((with_reducible refine' g_inT ?h1 ?h2 ?h3 ?h4 ?h5 ?_); (case h1 => assumption); (case h2 => walk_at "mem"); (case h3 => rfl); (case h4 => rfl); (case h5 => rfl)))
local macro_rules | `(tactic| walk_at "gs") => `(tactic| repeat first | walk_at "s1" | walk_at "g1")
local macro_rules | `(tactic| walk_at "ite") => `(tactic| first
  | ((with_reducible refine' w_iteT ?h1 ?_); (case h1 => omega))
  | ((with_reducible refine' w_iteF ?h1 ?_); (case h1 => omega))
  | (with_reducible refine w_ite ?_ ?_ <;> intro hq)
  | ((with_reducible refine' w_iteNT ?h1 ?_); (case h1 => omega))
  | ((with_reducible refine' w_iteNF ?h1 ?_); (case h1 => omega))
  | (with_reducible refine w_iteN ?_ ?_ <;> intro hq))
local macro_rules | `(tactic| walk_at "go") => `(tactic| repeat' first | walk_at "s1" | walk_at "g1" | walk_at "ite")
local macro_rules | `(tactic| walk_at "g1") => `(tactic| first
  | ((with_reducible refine' g_take1 ?h1 ?h2 ?h3 ?h4 ?_); (case h1 => assumption); (case h2 => walk_at "spl"); (case h3 => omega); (case h4 => omega); intro k H2 hk1 hh2)
  | ((with_reducible refine' g_take ?h1 ?h2 ?h4 ?_); (case h1 => assumption); (case h2 => walk_at "spl"); (case h4 => omega); intro k H2 hk1 hh2)
  | ((with_reducible refine' g_betweenN ?h1 ?h2 ?h5 ?h3 ?h4 ?_); (case h1 => assumption); (case h2 => walk_at "spl"); (case h5 => omega); (case h3 => omega); (case h4 => omega); intro k H2 hk1 hk2 hh2)
  | ((with_reducible refine' g_between ?h1 ?h2 ?h3 ?h4 ?_); (case h1 => assumption); (case h2 => walk_at "spl"); (case h3 => omega); (case h4 => omega); intro k H2 hk1 hk2 hh2)
  | ((with_reducible refine' g_size ?h1 ?h2 ?h3 ?h4 ?_); (case h1 => assumption); (case h2 => walk_at "spl"); (case h3 => omega); (case h4 => omega); intro k H2 hk1 hh2)
  | ((with_reducible refine' g_word ?h1 ?h2 ?_); (case h1 => assumption); (case h2 => walk_at "spl"); intro k H2 hk1 hh2))
local macro_rules | `(tactic| walk_at "g1") => `(tactic| first | with_reducible refine w_sl ?_ | with_reducible refine w_part ?_ | with_reducible refine w_noPart ?_ | with_reducible refine w_exI ?_)
local macro_rules | `(tactic| walk_at "g1") => `(tactic| first | with_reducible refine w_din ?_ | with_reducible refine w_dnotin ?_ | with_reducible refine w_dget ?_ | with_reducible refine w_dput ?_ | with_reducible refine w_ddel ?_ | with_reducible refine w_dpop ?_)
section
variable {P : Program} {w : World} {K : PySem.W.Frag} {mg : Str → Option Value} {base : Heap} {aREG aOPS : Addr}
section
variable {C : Addr}
def RepD : Deed → Prop
  | .enter _ _ _ => False
  | .leave _ => False
  | _ => True
theorem rep_dom {f : Nat → Bool} {d : Deed} (h : RepD d) : dom1 f d = f := by
  cases d with
  | enter => cases h
  | leave => cases h
  | _ => rfl
theorem ok1_eq {f g : Nat → Bool} (h : ∀ j, f j = g j) {d : Deed} : ok1 f d → ok1 g d := by
  rw [show f = g from funext h]
  exact id
theorem toS_nil8 : rowsP (fun _ => none) (keys8 fun _ => none) = [] := rfl
theorem keys_one {p : Nat} {m : Mb} (h : p < 8) : keys8 (upS (fun _ => none) p (some m)) = [p] := by
  refine asc_one keysS_asc (List.pairwise_singleton _ _) fun j => ?_
  rw [keysS_mem, List.mem_singleton]
  unfold upS
  constructor
  · rintro ⟨_, h2⟩
    split at h2
    · assumption
    · cases h2
  · rintro rfl
    exact ⟨h, by rw [if_pos rfl]; rfl⟩
def sp_law (K : PySem.W.Frag) : Sp := fun vs H Q _ => ∃ (a : Addr) (ns : List Int), vs = [.ref a] ∧ SqL K H a (ns.map V.int) ∧ ns.length ≤ 63 ∧ ∀ H', Q (.bl true) H'
theorem c_law {f : Addr} {fd : FuncData} (T : Txt K mg aREG aOPS) (L : AgC K C) (d : FunT K "law" s_law f fd) (c__law_store : C8.Cal P w K mg base 1 "_law_store" (sp_store K) []) (c__law_take : C8.Cal P w K mg base 2 "_law_take" sp_take []) (c__law_between : C8.Cal P w K mg base 3 "_law_between" sp_between []) (c__law_size : C8.Cal P w K mg base 3 "_law_size" sp_size []) (c_Ages : C8.Mak P w K mg base 1 "Ages" C (sp_agI C) []) (c_Ages_enter2 : C8.Met P w K mg base 5 C "enter" (sp_enter C) [.bl true])
    (c_Ages_rows : C8.Met P w K mg base 1 C "rows" (sp_rows K C) []) (c__law_copy : C8.Cal P w K mg base 3 "_law_copy" (sp_copyL K 1) []) (c__law_alike : C8.Cal P w K mg base 3 "_law_alike" (sp_alike K 3) []) (c__law_drawn : C8.Cal P w K mg base 4 "_law_drawn" (sp_drawn K) []) (c__law_after : C8.Cal P w K mg base 7 "_law_after" (sp_after C K) []) : FnOk P w K mg base CX0 8 f fd ["script"] (sp_law K) := by
  refine mkF d sc_law (fun vs H Q E h => ?_) (fun fa cdv A outer s H vs Q E hr h => ?_)
  · obtain ⟨a, ns, rfl, _⟩ := h
    rfl
  · obtain ⟨a, ns, rfl, ha, hn, q⟩ := h
    refine ⟨_, (pss_cons (ps_set (i := 1) sc_law.nd rfl (Or.inl rfl) (C8.pe_c c__law_store hr (by first | decide | omega) rfl (pa_cons (pv 0) (pa_cons pe_int pa_nil))))
  (pss_cons (ps_set (i := 2) sc_law.nd rfl (Or.inl rfl) (Wk.pe_mk0 c_Ages hr (by first | decide | omega) rfl))
  (pss_cons (ps_set (i := 3) sc_law.nd rfl (Or.inl rfl) (Wk.pe_mk0 c_Ages hr (by first | decide | omega) rfl))
  (pss_cons (ps_expr (C8.pe_mt c_Ages_enter2 hr (by first | decide | omega) (pv 3) (pa_cons (C8.pe_c c__law_take hr (by first | decide | omega) rfl (pa_cons (pv 1) (pa_cons pe_int pa_nil))) (pa_cons pe_int pa_nil))))
  (pss_cons (ps_set (i := 4) sc_law.nd rfl (Or.inl rfl) (C8.pe_c c__law_copy hr (by first | decide | omega) rfl (pa_cons (C8.pe_mt0 c_Ages_rows hr (by first | decide | omega) (pv 3)) pa_nil)))
  (pss_cons (ps_set (i := 5) sc_law.nd rfl (Or.inl rfl) (C8.pe_c c__law_copy hr (by first | decide | omega) rfl (pa_cons (C8.pe_mt0 c_Ages_rows hr (by first | decide | omega) (pv 2)) pa_nil)))
  (pss_cons (ps_if (pt_not (pt_val (C8.pe_c c__law_alike hr (by first | decide | omega) rfl (pa_cons (pe_lst pa_nil) (pa_cons (pv 5) pa_nil)))))
    (pss_one (ps_ret pe_bl))
    pss_nil)
  (pss_cons (ps_for PassesOwn.never rfl (pi_range1 rfl T.b_range (pa_cons (pe_op op_add pe_int (C8.pe_c c__law_size hr (by first | decide | omega) rfl (pa_cons (pv 1) (pa_cons pe_int pa_nil)))) pa_nil)) (pg_name (i := 6) sc_law.nd rfl (Or.inl rfl))
    (pss_cons (ps_set (i := 7) sc_law.nd rfl (Or.inl rfl) (C8.pe_c c__law_drawn hr (by first | decide | omega) rfl (pa_cons (pv 1) (pa_cons (pv 5) pa_nil))))
      (pss_cons (ps_set (i := 8) sc_law.nd rfl (Or.inl rfl) (pe_cmpR op_eq (C8.pe_c c__law_take hr (by first | decide | omega) rfl (pa_cons (pv 1) (pa_cons pe_int pa_nil))) pe_int (nomark _)))
      (pss_cons (ps_set (i := 9) sc_law.nd rfl (Or.inl rfl) pe_int)
      (pss_cons (ps_if (PW.pt (pw_and (pt_cmpR op_in_seq (pe_ix ix_tup (pv 7) pe_int (fun _ _ => rfl)) (pe_tup (pa_cons pe_str (pa_cons pe_str (pa_cons pe_str (pa_cons pe_str pa_nil))))) (by rfl)) (pw_and1 (pt_cmpR op_eq (C8.pe_c c__law_take hr (by first | decide | omega) rfl (pa_cons (pv 1) (pa_cons pe_int pa_nil))) pe_int (nomark _)))))
        (pss_one (ps_set (i := 9) sc_law.nd rfl (Or.inl rfl) (pe_op op_add pe_int (C8.pe_c c__law_take hr (by first | decide | omega) rfl (pa_cons (pv 1) (pa_cons pe_int pa_nil))))))
        pss_nil)
      (pss_cons (ps_for PassesOwn.never rfl (pi_range1 rfl T.b_range (pa_cons (pv 9) pa_nil)) (pg_name (i := 10) sc_law.nd rfl (Or.inl rfl))
        (pss_cons (ps_set (i := 5) sc_law.nd rfl (Or.inl rfl) (C8.pe_c c__law_after hr (by first | decide | omega) rfl (pa_cons (pv 2) (pa_cons (pv 5) (pa_cons (pv 7) (pa_cons (pv 8) pa_nil))))))
          (pss_one (ps_if (pt_cmpR op_isN1 (pv 5) pe_non (nomark _))
            (pss_one (ps_ret pe_bl))
            pss_nil))))
      (pss_one (ps_if (PW.pt (pw_and (pt_cmpR op_eq (pe_ix ix_tup (pv 7) pe_int (fun _ _ => rfl)) pe_str (nomark _)) (pw_and1 (pt_cmpR op_eq (C8.pe_c c__law_take hr (by first | decide | omega) rfl (pa_cons (pv 1) (pa_cons pe_int pa_nil))) pe_int (nomark _)))))
        (pss_cons (ps_set (i := 7) sc_law.nd rfl (Or.inl rfl) (pe_tup (pa_cons pe_str (pa_cons (pe_ix ix_tup (pv 7) pe_int (fun _ _ => rfl)) (pa_cons (C8.pe_c c__law_between hr (by first | decide | omega) rfl (pa_cons (pv 1) (pa_cons pe_int (pa_cons pe_int pa_nil)))) (pa_cons (pe_cmpR op_eq (C8.pe_c c__law_take hr (by first | decide | omega) rfl (pa_cons (pv 1) (pa_cons pe_int pa_nil))) pe_int (nomark _)) pa_nil))))))
          (pss_cons (ps_set (i := 5) sc_law.nd rfl (Or.inl rfl) (C8.pe_c c__law_after hr (by first | decide | omega) rfl (pa_cons (pv 2) (pa_cons (pv 5) (pa_cons (pv 7) (pa_cons (pe_not (pv 8)) pa_nil))))))
          (pss_one (ps_if (pt_cmpR op_isN1 (pv 5) pe_non (nomark _))
            (pss_one (ps_ret pe_bl))
            pss_nil))))
        pss_nil))))))))
  (pss_one (ps_ret (pe_and (pe_cmpR op_eq (pe_callB Wk.b_len (by rfl) T.b_len (by decide +kernel) (pa_cons (pv 4) pa_nil)) pe_int (nomark _)) (pe_one (C8.pe_c c__law_alike hr (by first | decide | omega) rfl (pa_cons (pv 4) (pa_cons (C8.pe_mt0 c_Ages_rows hr (by first | decide | omega) (pv 3)) pa_nil))))))))))))))), ?_⟩
    have hh : Hd H [] := ⟨List.nodup_nil, fun c hc => by cases hc⟩
    walk_at "gs"
    refine g_store hh ha hn (by omega) (by omega) fun st c H1 h1 => ?_
    clear hh
    walk_at "gs"
    rename_i o0 H2 h2
    refine ⟨o0, _, rfl, h2, fun Z0 H3 b0 h3 => ⟨rfl, ?_⟩⟩
    clear h1 h2
    walk_at "gs"
    rename_i o1 H4 h4
    refine ⟨o1, _, rfl, h4, fun Z1 H5 b1 h5 => ⟨rfl, ?_⟩⟩
    clear h3 h4
    have b0' := b0
    have b1' := b1
    obtain ⟨e0, W0, tb0, rfl⟩ := b0'
    obtain ⟨e1, W1, tb1, rfl⟩ := b1'
    have h5 : Hd H5 (agI o1 C e1 :: (W1 ++ (agI o0 C e0 :: (W0 ++ [stoC st c, scrC c])))) := h5
    walk_at "gs"
    rename_i pd H6 hpd h6
    refine ⟨o1, pd, 5, true, (fun _ => none), agI o1 C e1 :: W1, stoC st c :: scrC c :: agI o0 C e0 :: (W0 ++ []), rfl, by omega, by omega, b1, rfl, show Hd H6 (agI o1 C e1 :: (W1 ++ _)) from Hd.sb h6 (by walk_at "sbx"), fun Z1' H7 b1' h7 => ?_⟩
    clear h5 h6
    have hk1 : keys8 (upS (fun _ => none) pd (some (newM 5 true))) = [pd] := keys_one (by omega)
    generalize hSo : upS (fun _ => none) pd (some (newM 5 true)) = So at b1' hk1
    have b1'' := b1'
    obtain ⟨e1, W1, tb1', rfl⟩ := b1''
    have h7 : Hd H7 (agI o1 C e1 :: (W1 ++ (stoC st c :: scrC c :: agI o0 C e0 :: (W0 ++ [])))) := h7
    walk_at "gs"
    refine ⟨o1, So, _, _, rfl, b1', h7, fun D xs Y H8 hxl hY h8 => ?_⟩
    have h8 : Hd H8 (lstC D xs :: (Y ++ (agI o1 C e1 :: (W1 ++ (stoC st c :: scrC c :: agI o0 C e0 :: (W0 ++ [])))))) := h8
    clear h7
    walk_at "gs"
    refine g_copyL (m := 1) h8 (h8.sqL (by walk_at "mem")) (by omega) (hY H8 (Hd.sb h8 (by walk_at "sbx"))) fun ss sx Zs H9 hzs h9 => ?_
    clear h8
    walk_at "gs"
    refine ⟨o0, (fun _ => none), _, lstC ss sx :: (Zs ++ (agI o1 C e1 :: (W1 ++ (stoC st c :: scrC c :: [])))), rfl, b0, show Hd H9 (agI o0 C e0 :: (W0 ++ _)) from Hd.sb h9 (by walk_at "sbx"), fun D2 xs2 Y2 H10 hxl2 hY2 h10 => ?_⟩
    have h10 : Hd H10 (lstC D2 xs2 :: (Y2 ++ (agI o0 C e0 :: (W0 ++ (lstC ss sx :: (Zs ++ (agI o1 C e1 :: (W1 ++ (stoC st c :: scrC c :: []))))))))) := h10
    clear h9
    walk_at "gs"
    refine g_copyL (m := 1) h10 (h10.sqL (by walk_at "mem")) (by omega) (hY2 H10 (Hd.sb h10 (by walk_at "sbx"))) fun ta tx Zt H11 hzt h11 => ?_
    clear h10
    have hzt : RowsIn K (fun _ => none) (keys8 fun _ => none) tx Zt := hzt
    have hzs : RowsIn K So (keys8 So) sx Zs := hzs
    have htl : tx.length = 0 := hzt.len (show Hd H11 (Zt ++ _) from Hd.sb (A := Zt ++ [lstC ta tx]) h11 (by walk_at "sbx"))
    have hsl : sx.length = (keys8 So).length := hzs.len (show Hd H11 (Zs ++ _) from Hd.sb (A := Zs ++ [lstC ta tx]) h11 (by walk_at "sbx"))
    rw [hk1] at hsl
    walk_at "gs"
    rename_i pn H12 h12
    have dnil : Dn K [] H12 2 (.ref pn) (.list (rowsP (fun _ => none) (keys8 fun _ => none))) := .inr (.inl ⟨pn, [], _, rfl, rfl, List.not_mem_nil, h12.sqL (by walk_at "mem"), (show 0 ≤ 100000 by decide), .nil⟩)
    refine g_alike (n := 2) dnil (dn_tab hzt h12 (by walk_at "mem") (by omega) (Hd.sb h12 (by walk_at "sbx"))) ?_
    refine ⟨true, rfl, ?_⟩
    have h13 : Hd H12 ((agI o0 C e0 :: W0) ++ (lstC ta tx :: (Zt ++ (stoC st c :: scrC c :: agI o1 C e1 :: (W1 ++ (lstC ss sx :: (Zs ++ []))))))) := show Hd H12 (agI o0 C e0 :: (W0 ++ (lstC ta tx :: (Zt ++ (stoC st c :: scrC c :: agI o1 C e1 :: (W1 ++ (lstC ss sx :: (Zs ++ [])))))))) from Hd.sb h12 (by walk_at "sbx")
    have g0 : Good (fun _ => none) := fun k m e => by cases e
    clear h11 h12
    walk_at "gs"
    rename_i ni H14 hni h14
    have h15 : Hd H14 ((agI o0 C e0 :: W0) ++ (lstC ta tx :: (Zt ++ (stoC st c :: scrC c :: agI o1 C e1 :: (W1 ++ (lstC ss sx :: (Zs ++ []))))))) := show Hd H14 (agI o0 C e0 :: (W0 ++ (lstC ta tx :: (Zt ++ (stoC st c :: scrC c :: agI o1 C e1 :: (W1 ++ (lstC ss sx :: (Zs ++ [])))))))) from Hd.sb (L := stoC st c :: scrC c :: agI o0 C e0 :: (W0 ++ (lstC ta tx :: (Zt ++ (agI o1 C e1 :: (W1 ++ (lstC ss sx :: (Zs ++ [])))))))) h14 (by walk_at "sbx")
    clear h13 h14
    refine l_range (m := 2 + ni) (by push_cast; rfl) (by omega) (fun i σ H => ∃ (S : AgS) (xs : List V) (Z Y : List Cell) (ta : Addr) (v6 v7 v8 v9 v10 : Option V), σ = [some (.ref a), some (.ref st), some (.ref o0), some (.ref o1), some (.ref ss), some (.ref ta), v6, v7, v8, v9, v10] ∧ AgB C o0 S Z ∧ RowsIn K S (keys8 S) xs Y ∧ Good S ∧ Hd H (Z ++ (lstC ta xs :: (Y ++ (stoC st c :: scrC c :: agI o1 C e1 :: (W1 ++ (lstC ss sx :: (Zs ++ [])))))))) ⟨_, tx, _, Zt, ta, _, _, _, _, _, rfl, b0, hzt, g0, h15⟩ ?_ ?_
    · rintro i σ H1 hi ⟨S, xs, Z, Y, ta, v6, v7, v8, v9, v10, rfl, hb, hY, hG, h1⟩
      clear h15
      walk_at "gs"
      refine ⟨st, c, ta, S, xs, Y, Z ++ (agI o1 C e1 :: (W1 ++ (lstC ss sx :: (Zs ++ [])))), rfl, hY, Hd.sb h1 (by walk_at "sbx"), fun t dd H2 hok h2 => ?_⟩
      cases dd with
      | pick =>
        have h2 : Hd H2 (tupC t [V.str (Str.ofString "pick")] :: stoC st c :: scrC c :: lstC ta xs :: (Y ++ (Z ++ (agI o1 C e1 :: (W1 ++ (lstC ss sx :: (Zs ++ []))))))) := h2
        clear h1
        walk_at "gs"
        rename_i nb H3 hnb h3 pt H4 h4
        rw [show inV (V.str (Str.ofString "pick")) [V.str (Str.ofString "wake"), V.str (Str.ofString "sleep"), V.str (Str.ofString "lend"), V.str (Str.ofString "pick")] = true by decide +kernel]
        walk_at "gs"
        rename_i tk Ha htk ha
        refine w_ite (fun etk => ?_) (fun etk => ?_)
        · walk_at "gs"
          rename_i t3 Hb ht3 hb3
          have hX : Hd Hb (Z ++ (lstC ta xs :: (Y ++ (tupC t [V.str (Str.ofString "pick")] :: stoC st c :: scrC c :: agI o1 C e1 :: (W1 ++ (lstC ss sx :: (Zs ++ []))))))) := Hd.sb hb3 (by walk_at "sbx")
          clear h2 h3 h4 ha hb3
          refine l_range (m := 2 + t3) (by push_cast; rfl) (by omega) (fun j σ H => ∃ (S' : AgS) (xs' : List V) (Z' Y' : List Cell) (ta' : Addr) (v10 : Option V), σ = [some (.ref a), some (.ref st), some (.ref o0), some (.ref o1), some (.ref ss), some (.ref ta'), some (.int (i : Int)), some (.ref t), some (.bl (decide ((nb : Int) = 1))), some (.int (2 + (t3 : Int))), v10] ∧ AgB C o0 S' Z' ∧ RowsIn K S' (keys8 S') xs' Y' ∧ Good S' ∧ (ok1 (domS S') (.pick)) ∧
            Hd H (Z' ++ (lstC ta' xs' :: (Y' ++ (tupC t [V.str (Str.ofString "pick")] :: stoC st c :: scrC c :: agI o1 C e1 :: (W1 ++ (lstC ss sx :: (Zs ++ [])))))))) ⟨S, xs, Z, Y, ta, _, rfl, hb, hY, hG, hok, hX⟩ ?_ ?_
          · rintro j σ H5 hj ⟨S', xs', Z', Y', ta', v10, rfl, hb', hY', hG', hok', h5⟩
            walk_at "gs"
            refine ⟨o0, ta', t, _, .pick, S', xs', Z', Y', tupC t [V.str (Str.ofString "pick")] :: stoC st c :: scrC c :: agI o1 C e1 :: (W1 ++ (lstC ss sx :: (Zs ++ []))), rfl, hb', hY', hok', hG', List.mem_cons_self .., h5, fun D S2 xs2 Z2 Y2 H6 hG2 hdom hb2 hY2 h6 => ?_⟩
            walk_at "gs"
            exact ⟨S2, xs2, Z2, Y2, D, _, rfl, hb2, hY2, hG2, ok1_eq (fun j => ((hdom j).trans (congrFun (rep_dom (d := .pick) trivial) j)).symm) hok', h6⟩
          · rintro σ H5 ⟨S', xs', Z', Y', ta', v10, rfl, hb', hY', hG', hok', h5⟩
            walk_at "gs"
            exact ⟨S', xs', Z', Y', ta', _, _, _, _, _, rfl, hb', hY', hG', Hd.sb h5 (by walk_at "sbx")⟩
        · walk_at "gs"
          have hX : Hd Ha (Z ++ (lstC ta xs :: (Y ++ (tupC t [V.str (Str.ofString "pick")] :: stoC st c :: scrC c :: agI o1 C e1 :: (W1 ++ (lstC ss sx :: (Zs ++ []))))))) := Hd.sb ha (by walk_at "sbx")
          clear h2 h3 h4 ha
          refine l_range (m := 1) rfl (by omega) (fun j σ H => ∃ (S' : AgS) (xs' : List V) (Z' Y' : List Cell) (ta' : Addr) (v10 : Option V), σ = [some (.ref a), some (.ref st), some (.ref o0), some (.ref o1), some (.ref ss), some (.ref ta'), some (.int (i : Int)), some (.ref t), some (.bl (decide ((nb : Int) = 1))), some (.int 1), v10] ∧ AgB C o0 S' Z' ∧ RowsIn K S' (keys8 S') xs' Y' ∧ Good S' ∧ (ok1 (domS S') (.pick)) ∧
            Hd H (Z' ++ (lstC ta' xs' :: (Y' ++ (tupC t [V.str (Str.ofString "pick")] :: stoC st c :: scrC c :: agI o1 C e1 :: (W1 ++ (lstC ss sx :: (Zs ++ [])))))))) ⟨S, xs, Z, Y, ta, _, rfl, hb, hY, hG, hok, hX⟩ ?_ ?_
          · rintro j σ H5 hj ⟨S', xs', Z', Y', ta', v10, rfl, hb', hY', hG', hok', h5⟩
            walk_at "gs"
            refine ⟨o0, ta', t, _, .pick, S', xs', Z', Y', tupC t [V.str (Str.ofString "pick")] :: stoC st c :: scrC c :: agI o1 C e1 :: (W1 ++ (lstC ss sx :: (Zs ++ []))), rfl, hb', hY', hok', hG', List.mem_cons_self .., h5, fun D S2 xs2 Z2 Y2 H6 hG2 hdom hb2 hY2 h6 => ?_⟩
            walk_at "gs"
            exact ⟨S2, xs2, Z2, Y2, D, _, rfl, hb2, hY2, hG2, ok1_eq (fun j => ((hdom j).trans (congrFun (rep_dom (d := .pick) trivial) j)).symm) hok', h6⟩
          · rintro σ H5 ⟨S', xs', Z', Y', ta', v10, rfl, hb', hY', hG', hok', h5⟩
            walk_at "gs"
            exact ⟨S', xs', Z', Y', ta', _, _, _, _, _, rfl, hb', hY', hG', Hd.sb h5 (by walk_at "sbx")⟩
      | leave k =>
        have h2 : Hd H2 (tupC t [V.str (Str.ofString "leave"), V.int (k : Int)] :: stoC st c :: scrC c :: lstC ta xs :: (Y ++ (Z ++ (agI o1 C e1 :: (W1 ++ (lstC ss sx :: (Zs ++ []))))))) := h2
        clear h1
        walk_at "gs"
        rename_i nb H3 hnb h3 pt H4 h4
        rw [show inV (V.str (Str.ofString "leave")) [V.str (Str.ofString "wake"), V.str (Str.ofString "sleep"), V.str (Str.ofString "lend"), V.str (Str.ofString "pick")] = false by decide +kernel]
        walk_at "gs"
        have hX : Hd H4 (Z ++ (lstC ta xs :: (Y ++ (tupC t [V.str (Str.ofString "leave"), V.int (k : Int)] :: stoC st c :: scrC c :: agI o1 C e1 :: (W1 ++ (lstC ss sx :: (Zs ++ []))))))) := Hd.sb h4 (by walk_at "sbx")
        clear h2 h3 h4
        refine l_range (m := 1) rfl (by omega) (fun j σ H => ∃ (S' : AgS) (xs' : List V) (Z' Y' : List Cell) (ta' : Addr) (v10 : Option V), σ = [some (.ref a), some (.ref st), some (.ref o0), some (.ref o1), some (.ref ss), some (.ref ta'), some (.int (i : Int)), some (.ref t), some (.bl (decide ((nb : Int) = 1))), some (.int 1), v10] ∧ AgB C o0 S' Z' ∧ RowsIn K S' (keys8 S') xs' Y' ∧ Good S' ∧ ((j = 0 → domS S' = domS S) ∧ (0 < j → ∀ x, domS S' x = dom1 (domS S) (.leave k) x)) ∧
          Hd H (Z' ++ (lstC ta' xs' :: (Y' ++ (tupC t [V.str (Str.ofString "leave"), V.int (k : Int)] :: stoC st c :: scrC c :: agI o1 C e1 :: (W1 ++ (lstC ss sx :: (Zs ++ [])))))))) ⟨S, xs, Z, Y, ta, _, rfl, hb, hY, hG, ⟨fun _ => rfl, fun h => absurd h (Nat.lt_irrefl _)⟩, hX⟩ ?_ ?_
        · rintro j σ H5 hj ⟨S', xs', Z', Y', ta', v10, rfl, hb', hY', hG', hok', h5⟩
          walk_at "gs"
          refine ⟨o0, ta', t, _, .leave k, S', xs', Z', Y', tupC t [V.str (Str.ofString "leave"), V.int (k : Int)] :: stoC st c :: scrC c :: agI o1 C e1 :: (W1 ++ (lstC ss sx :: (Zs ++ []))), rfl, hb', hY', (by rw [hok'.1 (by omega)]; exact hok), hG', List.mem_cons_self .., h5, fun D S2 xs2 Z2 Y2 H6 hG2 hdom hb2 hY2 h6 => ?_⟩
          walk_at "gs"
          exact ⟨S2, xs2, Z2, Y2, D, _, rfl, hb2, hY2, hG2, ⟨fun h => absurd h (Nat.succ_ne_zero _), fun _ x => by rw [hdom x, hok'.1 (by omega)]⟩, h6⟩
        · rintro σ H5 ⟨S', xs', Z', Y', ta', v10, rfl, hb', hY', hG', hok', h5⟩
          walk_at "gs"
          rename_i lk H7 hlk h7
          refine w_ite (fun e => ?_) (fun e => ?_)
          · walk_at "gs"
            rename_i pr H8 hp0 hp7 h8 rk H9 hrk h9 t2 H10 h10
            have hk8 : k < 8 := by
              obtain ⟨m, hm⟩ := Option.isSome_iff_exists.mp (show (S k).isSome = true from hok)
              exact hb.lt hm
            have hno : domS S' k = false := by
              rw [hok'.2 (by decide) k]
              show (!decide (k = k) && domS S k) = false
              rw [decide_eq_true rfl]
              rfl
            have hX2 : Hd H10 (Z' ++ (lstC ta' xs' :: (Y' ++ (tupC t2 [V.str (Str.ofString "enter"), V.int (k : Int), V.int (pr : Int), V.bl (decide ((rk : Int) = 0))] :: stoC st c :: scrC c :: agI o1 C e1 :: (W1 ++ (lstC ss sx :: (Zs ++ []))))))) := Hd.sb h10 (by walk_at "sbx")
            clear h5 h7 h8 h9
            walk_at "gs"
            refine ⟨o0, ta', t2, _, .enter k pr (decide ((rk : Int) = 0)), S', xs', Z', Y', tupC t2 [V.str (Str.ofString "enter"), V.int (k : Int), V.int (pr : Int), V.bl (decide ((rk : Int) = 0))] :: stoC st c :: scrC c :: agI o1 C e1 :: (W1 ++ (lstC ss sx :: (Zs ++ []))), rfl, hb', hY', ⟨hk8, by omega, hno⟩, hG', List.mem_cons_self .., hX2, fun D S2 xs2 Z2 Y2 H6 hG2 hdom hb2 hY2 h6 => ?_⟩
            walk_at "gs"
            exact ⟨S2, xs2, Z2, Y2, D, _, _, _, _, _, rfl, hb2, hY2, hG2, Hd.sb h6 (by walk_at "sbx")⟩
          · walk_at "gs"
            exact ⟨S', xs', Z', Y', ta', _, _, _, _, _, rfl, hb', hY', hG', Hd.sb h7 (by walk_at "sbx")⟩
      | wake k =>
        have h2 : Hd H2 (tupC t [V.str (Str.ofString "wake"), V.int (k : Int)] :: stoC st c :: scrC c :: lstC ta xs :: (Y ++ (Z ++ (agI o1 C e1 :: (W1 ++ (lstC ss sx :: (Zs ++ []))))))) := h2
        clear h1
        walk_at "gs"
        rename_i nb H3 hnb h3 pt H4 h4
        rw [show inV (V.str (Str.ofString "wake")) [V.str (Str.ofString "wake"), V.str (Str.ofString "sleep"), V.str (Str.ofString "lend"), V.str (Str.ofString "pick")] = true by decide +kernel]
        walk_at "gs"
        rename_i tk Ha htk ha
        refine w_ite (fun etk => ?_) (fun etk => ?_)
        · walk_at "gs"
          rename_i t3 Hb ht3 hb3
          have hX : Hd Hb (Z ++ (lstC ta xs :: (Y ++ (tupC t [V.str (Str.ofString "wake"), V.int (k : Int)] :: stoC st c :: scrC c :: agI o1 C e1 :: (W1 ++ (lstC ss sx :: (Zs ++ []))))))) := Hd.sb hb3 (by walk_at "sbx")
          clear h2 h3 h4 ha hb3
          refine l_range (m := 2 + t3) (by push_cast; rfl) (by omega) (fun j σ H => ∃ (S' : AgS) (xs' : List V) (Z' Y' : List Cell) (ta' : Addr) (v10 : Option V), σ = [some (.ref a), some (.ref st), some (.ref o0), some (.ref o1), some (.ref ss), some (.ref ta'), some (.int (i : Int)), some (.ref t), some (.bl (decide ((nb : Int) = 1))), some (.int (2 + (t3 : Int))), v10] ∧ AgB C o0 S' Z' ∧ RowsIn K S' (keys8 S') xs' Y' ∧ Good S' ∧ (ok1 (domS S') (.wake k)) ∧
            Hd H (Z' ++ (lstC ta' xs' :: (Y' ++ (tupC t [V.str (Str.ofString "wake"), V.int (k : Int)] :: stoC st c :: scrC c :: agI o1 C e1 :: (W1 ++ (lstC ss sx :: (Zs ++ [])))))))) ⟨S, xs, Z, Y, ta, _, rfl, hb, hY, hG, hok, hX⟩ ?_ ?_
          · rintro j σ H5 hj ⟨S', xs', Z', Y', ta', v10, rfl, hb', hY', hG', hok', h5⟩
            walk_at "gs"
            refine ⟨o0, ta', t, _, .wake k, S', xs', Z', Y', tupC t [V.str (Str.ofString "wake"), V.int (k : Int)] :: stoC st c :: scrC c :: agI o1 C e1 :: (W1 ++ (lstC ss sx :: (Zs ++ []))), rfl, hb', hY', hok', hG', List.mem_cons_self .., h5, fun D S2 xs2 Z2 Y2 H6 hG2 hdom hb2 hY2 h6 => ?_⟩
            walk_at "gs"
            exact ⟨S2, xs2, Z2, Y2, D, _, rfl, hb2, hY2, hG2, ok1_eq (fun j => ((hdom j).trans (congrFun (rep_dom (d := .wake k) trivial) j)).symm) hok', h6⟩
          · rintro σ H5 ⟨S', xs', Z', Y', ta', v10, rfl, hb', hY', hG', hok', h5⟩
            walk_at "gs"
            exact ⟨S', xs', Z', Y', ta', _, _, _, _, _, rfl, hb', hY', hG', Hd.sb h5 (by walk_at "sbx")⟩
        · walk_at "gs"
          have hX : Hd Ha (Z ++ (lstC ta xs :: (Y ++ (tupC t [V.str (Str.ofString "wake"), V.int (k : Int)] :: stoC st c :: scrC c :: agI o1 C e1 :: (W1 ++ (lstC ss sx :: (Zs ++ []))))))) := Hd.sb ha (by walk_at "sbx")
          clear h2 h3 h4 ha
          refine l_range (m := 1) rfl (by omega) (fun j σ H => ∃ (S' : AgS) (xs' : List V) (Z' Y' : List Cell) (ta' : Addr) (v10 : Option V), σ = [some (.ref a), some (.ref st), some (.ref o0), some (.ref o1), some (.ref ss), some (.ref ta'), some (.int (i : Int)), some (.ref t), some (.bl (decide ((nb : Int) = 1))), some (.int 1), v10] ∧ AgB C o0 S' Z' ∧ RowsIn K S' (keys8 S') xs' Y' ∧ Good S' ∧ (ok1 (domS S') (.wake k)) ∧
            Hd H (Z' ++ (lstC ta' xs' :: (Y' ++ (tupC t [V.str (Str.ofString "wake"), V.int (k : Int)] :: stoC st c :: scrC c :: agI o1 C e1 :: (W1 ++ (lstC ss sx :: (Zs ++ [])))))))) ⟨S, xs, Z, Y, ta, _, rfl, hb, hY, hG, hok, hX⟩ ?_ ?_
          · rintro j σ H5 hj ⟨S', xs', Z', Y', ta', v10, rfl, hb', hY', hG', hok', h5⟩
            walk_at "gs"
            refine ⟨o0, ta', t, _, .wake k, S', xs', Z', Y', tupC t [V.str (Str.ofString "wake"), V.int (k : Int)] :: stoC st c :: scrC c :: agI o1 C e1 :: (W1 ++ (lstC ss sx :: (Zs ++ []))), rfl, hb', hY', hok', hG', List.mem_cons_self .., h5, fun D S2 xs2 Z2 Y2 H6 hG2 hdom hb2 hY2 h6 => ?_⟩
            walk_at "gs"
            exact ⟨S2, xs2, Z2, Y2, D, _, rfl, hb2, hY2, hG2, ok1_eq (fun j => ((hdom j).trans (congrFun (rep_dom (d := .wake k) trivial) j)).symm) hok', h6⟩
          · rintro σ H5 ⟨S', xs', Z', Y', ta', v10, rfl, hb', hY', hG', hok', h5⟩
            walk_at "gs"
            exact ⟨S', xs', Z', Y', ta', _, _, _, _, _, rfl, hb', hY', hG', Hd.sb h5 (by walk_at "sbx")⟩
      | sleep k =>
        have h2 : Hd H2 (tupC t [V.str (Str.ofString "sleep"), V.int (k : Int)] :: stoC st c :: scrC c :: lstC ta xs :: (Y ++ (Z ++ (agI o1 C e1 :: (W1 ++ (lstC ss sx :: (Zs ++ []))))))) := h2
        clear h1
        walk_at "gs"
        rename_i nb H3 hnb h3 pt H4 h4
        rw [show inV (V.str (Str.ofString "sleep")) [V.str (Str.ofString "wake"), V.str (Str.ofString "sleep"), V.str (Str.ofString "lend"), V.str (Str.ofString "pick")] = true by decide +kernel]
        walk_at "gs"
        rename_i tk Ha htk ha
        refine w_ite (fun etk => ?_) (fun etk => ?_)
        · walk_at "gs"
          rename_i t3 Hb ht3 hb3
          have hX : Hd Hb (Z ++ (lstC ta xs :: (Y ++ (tupC t [V.str (Str.ofString "sleep"), V.int (k : Int)] :: stoC st c :: scrC c :: agI o1 C e1 :: (W1 ++ (lstC ss sx :: (Zs ++ []))))))) := Hd.sb hb3 (by walk_at "sbx")
          clear h2 h3 h4 ha hb3
          refine l_range (m := 2 + t3) (by push_cast; rfl) (by omega) (fun j σ H => ∃ (S' : AgS) (xs' : List V) (Z' Y' : List Cell) (ta' : Addr) (v10 : Option V), σ = [some (.ref a), some (.ref st), some (.ref o0), some (.ref o1), some (.ref ss), some (.ref ta'), some (.int (i : Int)), some (.ref t), some (.bl (decide ((nb : Int) = 1))), some (.int (2 + (t3 : Int))), v10] ∧ AgB C o0 S' Z' ∧ RowsIn K S' (keys8 S') xs' Y' ∧ Good S' ∧ (ok1 (domS S') (.sleep k)) ∧
            Hd H (Z' ++ (lstC ta' xs' :: (Y' ++ (tupC t [V.str (Str.ofString "sleep"), V.int (k : Int)] :: stoC st c :: scrC c :: agI o1 C e1 :: (W1 ++ (lstC ss sx :: (Zs ++ [])))))))) ⟨S, xs, Z, Y, ta, _, rfl, hb, hY, hG, hok, hX⟩ ?_ ?_
          · rintro j σ H5 hj ⟨S', xs', Z', Y', ta', v10, rfl, hb', hY', hG', hok', h5⟩
            walk_at "gs"
            refine ⟨o0, ta', t, _, .sleep k, S', xs', Z', Y', tupC t [V.str (Str.ofString "sleep"), V.int (k : Int)] :: stoC st c :: scrC c :: agI o1 C e1 :: (W1 ++ (lstC ss sx :: (Zs ++ []))), rfl, hb', hY', hok', hG', List.mem_cons_self .., h5, fun D S2 xs2 Z2 Y2 H6 hG2 hdom hb2 hY2 h6 => ?_⟩
            walk_at "gs"
            exact ⟨S2, xs2, Z2, Y2, D, _, rfl, hb2, hY2, hG2, ok1_eq (fun j => ((hdom j).trans (congrFun (rep_dom (d := .sleep k) trivial) j)).symm) hok', h6⟩
          · rintro σ H5 ⟨S', xs', Z', Y', ta', v10, rfl, hb', hY', hG', hok', h5⟩
            walk_at "gs"
            exact ⟨S', xs', Z', Y', ta', _, _, _, _, _, rfl, hb', hY', hG', Hd.sb h5 (by walk_at "sbx")⟩
        · walk_at "gs"
          have hX : Hd Ha (Z ++ (lstC ta xs :: (Y ++ (tupC t [V.str (Str.ofString "sleep"), V.int (k : Int)] :: stoC st c :: scrC c :: agI o1 C e1 :: (W1 ++ (lstC ss sx :: (Zs ++ []))))))) := Hd.sb ha (by walk_at "sbx")
          clear h2 h3 h4 ha
          refine l_range (m := 1) rfl (by omega) (fun j σ H => ∃ (S' : AgS) (xs' : List V) (Z' Y' : List Cell) (ta' : Addr) (v10 : Option V), σ = [some (.ref a), some (.ref st), some (.ref o0), some (.ref o1), some (.ref ss), some (.ref ta'), some (.int (i : Int)), some (.ref t), some (.bl (decide ((nb : Int) = 1))), some (.int 1), v10] ∧ AgB C o0 S' Z' ∧ RowsIn K S' (keys8 S') xs' Y' ∧ Good S' ∧ (ok1 (domS S') (.sleep k)) ∧
            Hd H (Z' ++ (lstC ta' xs' :: (Y' ++ (tupC t [V.str (Str.ofString "sleep"), V.int (k : Int)] :: stoC st c :: scrC c :: agI o1 C e1 :: (W1 ++ (lstC ss sx :: (Zs ++ [])))))))) ⟨S, xs, Z, Y, ta, _, rfl, hb, hY, hG, hok, hX⟩ ?_ ?_
          · rintro j σ H5 hj ⟨S', xs', Z', Y', ta', v10, rfl, hb', hY', hG', hok', h5⟩
            walk_at "gs"
            refine ⟨o0, ta', t, _, .sleep k, S', xs', Z', Y', tupC t [V.str (Str.ofString "sleep"), V.int (k : Int)] :: stoC st c :: scrC c :: agI o1 C e1 :: (W1 ++ (lstC ss sx :: (Zs ++ []))), rfl, hb', hY', hok', hG', List.mem_cons_self .., h5, fun D S2 xs2 Z2 Y2 H6 hG2 hdom hb2 hY2 h6 => ?_⟩
            walk_at "gs"
            exact ⟨S2, xs2, Z2, Y2, D, _, rfl, hb2, hY2, hG2, ok1_eq (fun j => ((hdom j).trans (congrFun (rep_dom (d := .sleep k) trivial) j)).symm) hok', h6⟩
          · rintro σ H5 ⟨S', xs', Z', Y', ta', v10, rfl, hb', hY', hG', hok', h5⟩
            walk_at "gs"
            exact ⟨S', xs', Z', Y', ta', _, _, _, _, _, rfl, hb', hY', hG', Hd.sb h5 (by walk_at "sbx")⟩
      | lend k p =>
        have h2 : Hd H2 (tupC t [V.str (Str.ofString "lend"), V.int (k : Int), V.int (p : Int)] :: stoC st c :: scrC c :: lstC ta xs :: (Y ++ (Z ++ (agI o1 C e1 :: (W1 ++ (lstC ss sx :: (Zs ++ []))))))) := h2
        clear h1
        walk_at "gs"
        rename_i nb H3 hnb h3 pt H4 h4
        rw [show inV (V.str (Str.ofString "lend")) [V.str (Str.ofString "wake"), V.str (Str.ofString "sleep"), V.str (Str.ofString "lend"), V.str (Str.ofString "pick")] = true by decide +kernel]
        walk_at "gs"
        rename_i tk Ha htk ha
        refine w_ite (fun etk => ?_) (fun etk => ?_)
        · walk_at "gs"
          rename_i t3 Hb ht3 hb3
          have hX : Hd Hb (Z ++ (lstC ta xs :: (Y ++ (tupC t [V.str (Str.ofString "lend"), V.int (k : Int), V.int (p : Int)] :: stoC st c :: scrC c :: agI o1 C e1 :: (W1 ++ (lstC ss sx :: (Zs ++ []))))))) := Hd.sb hb3 (by walk_at "sbx")
          clear h2 h3 h4 ha hb3
          refine l_range (m := 2 + t3) (by push_cast; rfl) (by omega) (fun j σ H => ∃ (S' : AgS) (xs' : List V) (Z' Y' : List Cell) (ta' : Addr) (v10 : Option V), σ = [some (.ref a), some (.ref st), some (.ref o0), some (.ref o1), some (.ref ss), some (.ref ta'), some (.int (i : Int)), some (.ref t), some (.bl (decide ((nb : Int) = 1))), some (.int (2 + (t3 : Int))), v10] ∧ AgB C o0 S' Z' ∧ RowsIn K S' (keys8 S') xs' Y' ∧ Good S' ∧ (ok1 (domS S') (.lend k p)) ∧
            Hd H (Z' ++ (lstC ta' xs' :: (Y' ++ (tupC t [V.str (Str.ofString "lend"), V.int (k : Int), V.int (p : Int)] :: stoC st c :: scrC c :: agI o1 C e1 :: (W1 ++ (lstC ss sx :: (Zs ++ [])))))))) ⟨S, xs, Z, Y, ta, _, rfl, hb, hY, hG, hok, hX⟩ ?_ ?_
          · rintro j σ H5 hj ⟨S', xs', Z', Y', ta', v10, rfl, hb', hY', hG', hok', h5⟩
            walk_at "gs"
            refine ⟨o0, ta', t, _, .lend k p, S', xs', Z', Y', tupC t [V.str (Str.ofString "lend"), V.int (k : Int), V.int (p : Int)] :: stoC st c :: scrC c :: agI o1 C e1 :: (W1 ++ (lstC ss sx :: (Zs ++ []))), rfl, hb', hY', hok', hG', List.mem_cons_self .., h5, fun D S2 xs2 Z2 Y2 H6 hG2 hdom hb2 hY2 h6 => ?_⟩
            walk_at "gs"
            exact ⟨S2, xs2, Z2, Y2, D, _, rfl, hb2, hY2, hG2, ok1_eq (fun j => ((hdom j).trans (congrFun (rep_dom (d := .lend k p) trivial) j)).symm) hok', h6⟩
          · rintro σ H5 ⟨S', xs', Z', Y', ta', v10, rfl, hb', hY', hG', hok', h5⟩
            walk_at "gs"
            exact ⟨S', xs', Z', Y', ta', _, _, _, _, _, rfl, hb', hY', hG', Hd.sb h5 (by walk_at "sbx")⟩
        · walk_at "gs"
          have hX : Hd Ha (Z ++ (lstC ta xs :: (Y ++ (tupC t [V.str (Str.ofString "lend"), V.int (k : Int), V.int (p : Int)] :: stoC st c :: scrC c :: agI o1 C e1 :: (W1 ++ (lstC ss sx :: (Zs ++ []))))))) := Hd.sb ha (by walk_at "sbx")
          clear h2 h3 h4 ha
          refine l_range (m := 1) rfl (by omega) (fun j σ H => ∃ (S' : AgS) (xs' : List V) (Z' Y' : List Cell) (ta' : Addr) (v10 : Option V), σ = [some (.ref a), some (.ref st), some (.ref o0), some (.ref o1), some (.ref ss), some (.ref ta'), some (.int (i : Int)), some (.ref t), some (.bl (decide ((nb : Int) = 1))), some (.int 1), v10] ∧ AgB C o0 S' Z' ∧ RowsIn K S' (keys8 S') xs' Y' ∧ Good S' ∧ (ok1 (domS S') (.lend k p)) ∧
            Hd H (Z' ++ (lstC ta' xs' :: (Y' ++ (tupC t [V.str (Str.ofString "lend"), V.int (k : Int), V.int (p : Int)] :: stoC st c :: scrC c :: agI o1 C e1 :: (W1 ++ (lstC ss sx :: (Zs ++ [])))))))) ⟨S, xs, Z, Y, ta, _, rfl, hb, hY, hG, hok, hX⟩ ?_ ?_
          · rintro j σ H5 hj ⟨S', xs', Z', Y', ta', v10, rfl, hb', hY', hG', hok', h5⟩
            walk_at "gs"
            refine ⟨o0, ta', t, _, .lend k p, S', xs', Z', Y', tupC t [V.str (Str.ofString "lend"), V.int (k : Int), V.int (p : Int)] :: stoC st c :: scrC c :: agI o1 C e1 :: (W1 ++ (lstC ss sx :: (Zs ++ []))), rfl, hb', hY', hok', hG', List.mem_cons_self .., h5, fun D S2 xs2 Z2 Y2 H6 hG2 hdom hb2 hY2 h6 => ?_⟩
            walk_at "gs"
            exact ⟨S2, xs2, Z2, Y2, D, _, rfl, hb2, hY2, hG2, ok1_eq (fun j => ((hdom j).trans (congrFun (rep_dom (d := .lend k p) trivial) j)).symm) hok', h6⟩
          · rintro σ H5 ⟨S', xs', Z', Y', ta', v10, rfl, hb', hY', hG', hok', h5⟩
            walk_at "gs"
            exact ⟨S', xs', Z', Y', ta', _, _, _, _, _, rfl, hb', hY', hG', Hd.sb h5 (by walk_at "sbx")⟩
      | enter k p rb =>
        have h2 : Hd H2 (tupC t [V.str (Str.ofString "enter"), V.int (k : Int), V.int (p : Int), V.bl rb] :: stoC st c :: scrC c :: lstC ta xs :: (Y ++ (Z ++ (agI o1 C e1 :: (W1 ++ (lstC ss sx :: (Zs ++ []))))))) := h2
        clear h1
        walk_at "gs"
        rename_i nb H3 hnb h3 pt H4 h4
        rw [show inV (V.str (Str.ofString "enter")) [V.str (Str.ofString "wake"), V.str (Str.ofString "sleep"), V.str (Str.ofString "lend"), V.str (Str.ofString "pick")] = false by decide +kernel]
        walk_at "gs"
        have hX : Hd H4 (Z ++ (lstC ta xs :: (Y ++ (tupC t [V.str (Str.ofString "enter"), V.int (k : Int), V.int (p : Int), V.bl rb] :: stoC st c :: scrC c :: agI o1 C e1 :: (W1 ++ (lstC ss sx :: (Zs ++ []))))))) := Hd.sb h4 (by walk_at "sbx")
        clear h2 h3 h4
        refine l_range (m := 1) rfl (by omega) (fun j σ H => ∃ (S' : AgS) (xs' : List V) (Z' Y' : List Cell) (ta' : Addr) (v10 : Option V), σ = [some (.ref a), some (.ref st), some (.ref o0), some (.ref o1), some (.ref ss), some (.ref ta'), some (.int (i : Int)), some (.ref t), some (.bl (decide ((nb : Int) = 1))), some (.int 1), v10] ∧ AgB C o0 S' Z' ∧ RowsIn K S' (keys8 S') xs' Y' ∧ Good S' ∧ ((j = 0 → domS S' = domS S) ∧ (0 < j → ∀ x, domS S' x = dom1 (domS S) (.enter k p rb) x)) ∧
          Hd H (Z' ++ (lstC ta' xs' :: (Y' ++ (tupC t [V.str (Str.ofString "enter"), V.int (k : Int), V.int (p : Int), V.bl rb] :: stoC st c :: scrC c :: agI o1 C e1 :: (W1 ++ (lstC ss sx :: (Zs ++ [])))))))) ⟨S, xs, Z, Y, ta, _, rfl, hb, hY, hG, ⟨fun _ => rfl, fun h => absurd h (Nat.lt_irrefl _)⟩, hX⟩ ?_ ?_
        · rintro j σ H5 hj ⟨S', xs', Z', Y', ta', v10, rfl, hb', hY', hG', hok', h5⟩
          walk_at "gs"
          refine ⟨o0, ta', t, _, .enter k p rb, S', xs', Z', Y', tupC t [V.str (Str.ofString "enter"), V.int (k : Int), V.int (p : Int), V.bl rb] :: stoC st c :: scrC c :: agI o1 C e1 :: (W1 ++ (lstC ss sx :: (Zs ++ []))), rfl, hb', hY', (by rw [hok'.1 (by omega)]; exact hok), hG', List.mem_cons_self .., h5, fun D S2 xs2 Z2 Y2 H6 hG2 hdom hb2 hY2 h6 => ?_⟩
          walk_at "gs"
          exact ⟨S2, xs2, Z2, Y2, D, _, rfl, hb2, hY2, hG2, ⟨fun h => absurd h (Nat.succ_ne_zero _), fun _ x => by rw [hdom x, hok'.1 (by omega)]⟩, h6⟩
        · rintro σ H5 ⟨S', xs', Z', Y', ta', v10, rfl, hb', hY', hG', hok', h5⟩
          walk_at "gs"
          exact ⟨S', xs', Z', Y', ta', _, _, _, _, _, rfl, hb', hY', hG', Hd.sb h5 (by walk_at "sbx")⟩
    · rintro σ H1 ⟨S, xs, Z, Y, ta, v6, v7, v8, v9, v10, rfl, hb, hY, hG, h1⟩
      clear h15
      walk_at "gs"
      have hsl1 : (sx.length : Int) = 1 := by rw [hsl]; rfl
      rw [decide_eq_true hsl1]
      walk_at "gs"
      refine ⟨o1, So, _, Z ++ (lstC ta xs :: (Y ++ (stoC st c :: scrC c :: (lstC ss sx :: (Zs ++ []))))), rfl, b1', show Hd H1 (agI o1 C e1 :: (W1 ++ _)) from Hd.sb h1 (by walk_at "sbx"), fun D3 ys Y3 H2 hyl hY3 h2 => ?_⟩
      have h2 : Hd H2 (lstC D3 ys :: (Y3 ++ (agI o1 C e1 :: (W1 ++ (Z ++ (lstC ta xs :: (Y ++ (stoC st c :: scrC c :: (lstC ss sx :: (Zs ++ [])))))))))) := h2
      walk_at "gs"
      have hY3 : RowsIn K So (keys8 So) ys Y3 := hY3
      refine g_alike (n := 2) (dn_tab hzs h2 (by walk_at "mem") (by omega) (Hd.sb h2 (by walk_at "sbx"))) (dn_tab hY3 h2 (by walk_at "mem") (by omega) (Hd.sb h2 (by walk_at "sbx"))) ?_
      exact q _
end
end
end K23
set_option Elab.async false
set_option linter.all false
set_option maxRecDepth 100000
set_option maxHeartbeats 4000000
namespace K23
open PySem PySem.Spec PyProof.Rows L2 Wk
local macro_rules | `(tactic| walk_at "u1") => `(tactic| fail "no more")
local macro_rules | `(tactic| walk_at "pos") => `(tactic| first | assumption | omega | decide | (simp only [Int.ofNat_eq_natCast] at *; omega))
local macro_rules | `(tactic| walk_at "sz") => `(tactic| first
  | (simp only [List.length_cons, List.length_nil]; decide)
  | exact Evl.sz_of (by omega)
  | exact Evl.sz_lt (by omega)
  | exact Evl.sz_of (by simp only [List.length_map, List.length_append, List.length_cons, List.length_nil, List.length_replicate]; omega)
  | exact Evl.sz_lt (by simp only [List.length_map, List.length_append, List.length_cons, List.length_nil, List.length_replicate]; omega))
local macro_rules | `(tactic| walk_at "cond") => `(tactic| first
  | exact Or.inr ⟨by decide, by decide⟩
  | (show (0 : Int) < _; first | decide | assumption | omega)
  | exact Or.inl ⟨by omega, by omega⟩
  | exact Or.inr ⟨by omega, by omega⟩
  | exact ⟨by decide, by decide, by decide⟩
  | exact log2_lt (by omega) (by omega)
  | exact ⟨by omega, by omega⟩)
local macro_rules | `(tactic| walk_at "ty") => `(tactic| first
  | exact ty_int | exact ty_bl | exact ty_str | exact ty_non
  | exact ty_L (by assumption) | exact ty_T (by assumption)
  | exact ty_L (SqL.of (by assumption)) | exact ty_T (SqT.of (by assumption)))
local macro_rules | `(tactic| walk_at "kit") => `(tactic| first
  | exact k_ii | exact k_ib | exact k_is | exact k_il | exact k_it
  | exact k_bb | exact k_bi | exact k_bs | exact k_bl | exact k_bt
  | exact k_ss | exact k_sb | exact k_si | exact k_sl | exact k_st
  | exact k_ll | exact k_lb | exact k_li | exact k_ls | exact k_lt
  | exact k_tt | exact k_tb | exact k_ti | exact k_ts | exact k_tl
  | exact k_nn | exact k_ni | exact k_ns | exact k_nl | exact k_nt)
local macro_rules | `(tactic| walk_at "s1") => `(tactic| first
  | with_reducible refine w_seq ?_
  | with_reducible refine w_set ?_
  | with_reducible refine w_op ?_
  | ((with_reducible refine' w_var ?h1 ?_); (case h1 => rfl))
  | with_reducible refine w_c ?_
  | with_reducible refine w_cb ?_
  | with_reducible refine w_cons ?_
  | with_reducible refine w_nil ?_
  | with_reducible refine w_I0 ?_
  | ((with_reducible refine' w_I ?c1 ?_); case c1 => walk_at "cond")
  | with_reducible refine w_ret ?_
  | with_reducible refine w_next ?_
  | with_reducible refine w_ifS ?_
  | with_reducible refine w_test ?_
  | with_reducible refine w_tB ?_
  | with_reducible refine w_k ?_
  | with_reducible refine w_eqI ?_
  | with_reducible refine w_neI ?_
  | with_reducible refine w_eqS ?_
  | with_reducible refine w_neS ?_
  | with_reducible refine w_and ?_
  | with_reducible refine w_or ?_
  | with_reducible refine w_not ?_
  | with_reducible refine w_andV ?_
  | with_reducible refine w_orV ?_
  | with_reducible refine w_notV ?_
  | with_reducible refine w_ifE ?_
  | with_reducible refine w_true ?_
  | with_reducible refine w_false ?_
  | with_reducible refine w_ntrue ?_
  | with_reducible refine w_nfalse ?_
  | with_reducible refine w_call ?_
  | with_reducible refine c_int ?_
  | with_reducible refine c_abs ?_
  | with_reducible refine c_max ?_
  | with_reducible refine c_min ?_
  | with_reducible refine w_drop ?_
  | with_reducible refine w_sfld ?_
  | with_reducible refine w_meth ?_
  | with_reducible refine w_make ?_
  | with_reducible refine w_prop ?_
  | with_reducible refine w_callK ?_
  | with_reducible refine w_callN ?_
  | with_reducible refine w_star ?_
  | with_reducible refine w_gcons ?_
  | with_reducible refine w_gname ?_
  | with_reducible refine w_gnil ?_
  | with_reducible refine w_retN ?_
  | with_reducible refine w_tup ?_
  | with_reducible refine w_lst ?_
  | with_reducible refine w_fld ?_
  | with_reducible refine w_bm ?_
  | with_reducible refine w_bm0 ?_
  | with_reducible refine w_forL ?_
  | with_reducible refine w_forT ?_
  | with_reducible refine w_forS ?_
  | with_reducible refine w_forR ?_
  | with_reducible refine w_lcR ?_
  | with_reducible refine w_lcL ?_
  | with_reducible refine w_lcT ?_
  | with_reducible refine w_isN ?_
  | with_reducible refine w_notN ?_
  | with_reducible refine w_asg ?_
  | with_reducible refine w_gsub ?_
  | ((with_reducible refine' w_aug ?h1 ?_); (case h1 => rfl))
  | with_reducible refine w_augS ?_
  | with_reducible refine w_ipI ?_
  | with_reducible refine w_un ?_
  | with_reducible refine w_U ?_
  | ((with_reducible refine' w_iteF ?f1 ?_); case f1 => (first | (intro h; cases h; done) | decide))
  | ((with_reducible refine' w_iteT ?f1 ?_); case f1 => rfl)
  | ((with_reducible refine' w_iteNF ?f1 ?_); case f1 => rfl)
  | ((with_reducible refine' w_iteNT ?f1 ?_); case f1 => (first | (intro h; cases h; done) | decide))
  | ((with_reducible refine' c_isi ?t1 ?k1 ?_); (case t1 => walk_at "ty"); (case k1 => walk_at "kit"))
  | ((with_reducible refine' w_eq ?e1 ?_); case e1 => rfl)
  | ((with_reducible refine' w_ne ?e1 ?_); case e1 => rfl)
  | walk_at "u1")
local macro_rules | `(tactic| walk_at "s") => `(tactic| repeat walk_at "s1")
local macro_rules | `(tactic| walk_at "mem") => `(tactic| first | with_reducible exact List.mem_cons_self .. | ((with_reducible refine' List.mem_cons_of_mem _ ?q); (case q => walk_at "mem")) | assumption | ((with_reducible refine' List.mem_append_right _ ?q); (case q => walk_at "mem")) | (exact List.mem_append_left _ (by assumption)))
local macro_rules | `(tactic| walk_at "pk") => `(tactic| first | with_reducible exact Pk.here | ((with_reducible refine' Pk.there ?q); (case q => walk_at "pk")) | ((with_reducible refine' Pk.app ?q); (case q => walk_at "pk")))
local macro_rules | `(tactic| walk_at "pkb") => `(tactic| first | with_reducible exact PkB.here | ((with_reducible refine' PkB.there ?q); (case q => walk_at "pkb")) | ((with_reducible refine' PkB.app ?q); (case q => walk_at "pkb")))
local macro_rules | `(tactic| walk_at "spl") => `(tactic| first | with_reducible exact Spl.nil | ((with_reducible refine' Spl.cons ?h ?t); (case h => walk_at "pk"); (case t => walk_at "spl")) | ((with_reducible refine' Spl.blk ?h ?t); (case h => walk_at "pkb"); (case t => walk_at "spl")))
local macro_rules | `(tactic| walk_at "sbx") => `(tactic| first | with_reducible exact Sb.refl | with_reducible exact Sb.nil | with_reducible exact Sb.left | ((with_reducible refine' Sb.cons ?h ?t); (case h => walk_at "pk"); (case t => walk_at "sbx")) | ((with_reducible refine' Sb.blk ?h ?t); (case h => walk_at "pkb"); (case t => walk_at "sbx")) | ((with_reducible refine' Sb.drop ?q); (case q => walk_at "sbx")) | ((with_reducible refine' Sb.right ?q); (case q => walk_at "sbx")))
local macro_rules | `(tactic| walk_at "hd") => `(tactic| first | assumption | exact Hd.sb (by assumption) (by walk_at "sbx"))
local macro_rules | `(tactic| walk_at "sq") => `(tactic| first
  | assumption
  | exact Hd.sqL (by assumption) (by walk_at "mem")
  | exact Hd.sqT (by assumption) (by walk_at "mem")
  | exact Hd.sqF (by assumption) (by walk_at "mem")
  | (refine .inl ?_; walk_at "sq")
  | (refine .inr ?_; walk_at "sq"))
local macro_rules | `(tactic| walk_at "at") => `(tactic| first | rfl | assumption | exact atI_nat (by assumption))
local macro_rules | `(tactic| walk_at "dn1") => `(tactic| first
  | exact Dn.int | exact Dn.str | exact Dn.non | exact Dn.bl | assumption
  | ((refine' Dn.tp ?a1 ?m1 ?l1 ?p1); (case a1 => assumption); (case m1 => walk_at "mem"); (case l1 => (simp only [List.length_cons, List.length_nil]; omega)); (case p1 => walk_at "dns"))
  | ((refine' Dn.lt ?a1 ?m1 ?l1 ?p1); (case a1 => assumption); (case m1 => walk_at "mem"); (case l1 => (simp only [List.length_cons, List.length_nil]; omega)); (case p1 => walk_at "dns")))
local macro_rules | `(tactic| walk_at "dns") => `(tactic| first | exact Paired.nil | exact Dn.ints | ((refine' Paired.cons ?a1 ?b1); (case a1 => walk_at "dn1"); (case b1 => walk_at "dns")))
local macro_rules | `(tactic| walk_at "g1") => `(tactic| first
  | ((with_reducible refine' g_ixI ?h1 ?h2 ?h3 ?_); (case h1 => assumption); (case h2 => walk_at "mem"); (case h3 => omega); intro z hz)
  | ((with_reducible refine' g_ixIT ?h1 ?h2 ?h3 ?_); (case h1 => assumption); (case h2 => walk_at "mem"); (case h3 => omega); intro z hz)
  | ((with_reducible refine' g_setI ?h1 ?h2 ?h3 ?_); (case h1 => assumption); (case h2 => walk_at "pk"); (case h3 => omega); intro H2 hh2)
  | ((with_reducible refine' w_ixL ?h1 ?h2 ?_); (case h1 => walk_at "sq"); (case h2 => walk_at "at"))
  | ((with_reducible refine' w_ixT ?h1 ?h2 ?_); (case h1 => walk_at "sq"); (case h2 => walk_at "at"))
  | ((with_reducible refine' w_ixAny ?h1 ?h2 ?_); (case h1 => walk_at "sq"); (case h2 => walk_at "at"))
  | ((with_reducible refine' c_lenA ?h1 ?_); (case h1 => walk_at "sq"))
  | ((with_reducible refine' c_isi ?t1 ?k1 ?_); (case t1 => first | exact ty_T (by walk_at "sq") | exact ty_L (by walk_at "sq")); (case k1 => walk_at "kit"))
  | ((with_reducible refine' g_lst ?h1 ?h2 ?_); (case h1 => assumption); (case h2 => walk_at "sz"); intro p H2 hh2)
  | ((with_reducible refine' g_tup ?h1 ?h2 ?_); (case h1 => assumption); (case h2 => walk_at "sz"); intro p H2 hh2)
  | ((with_reducible refine' g_dict ?h1 ?_); (case h1 => assumption); intro p H2 hh2)
  | ((with_reducible refine' g_listL ?h1 ?h2 ?_); (case h1 => assumption); (case h2 => walk_at "sq"); intro p H2 hh2)
  | ((with_reducible refine' g_listT ?h1 ?h2 ?_); (case h1 => assumption); (case h2 => walk_at "sq"); intro p H2 hh2)
  | ((with_reducible refine' g_tupL ?h1 ?h2 ?_); (case h1 => assumption); (case h2 => walk_at "sq"); intro p H2 hh2)
  | ((with_reducible refine' g_set ?h1 ?h2 ?h3 ?_); (case h1 => assumption); (case h2 => walk_at "pk"); (case h3 => first | rfl | assumption | exact Evl.ixN_nat (by first | omega | (simp only [List.length_cons, List.length_nil]; omega))); intro H2 hh2)
  | ((with_reducible refine' g_kbm ?h1 ?h2 ?_); (case h1 => assumption); (case h2 => walk_at "mem"))
  | ((with_reducible refine' g_kbm0 ?h1 ?h2 ?_); (case h1 => assumption); (case h2 => walk_at "mem"))
  | ((with_reducible refine' g_app ?h1 ?h2 ?h3 ?_); (case h1 => assumption); (case h2 => walk_at "pk"); (case h3 => walk_at "sz"); intro H2 hh2)
  | ((with_reducible refine' g_kapp ?h1 ?h2 ?h3 ?_); (case h1 => assumption); (case h2 => walk_at "pk"); (case h3 => walk_at "sz"); intro H2 hh2)
  | ((with_reducible refine' g_fld ?h1 ?h2 ?h3 ?h4 ?h5 ?_); (case h1 => assumption); (case h2 => walk_at "mem"); (case h3 => assumption); (case h4 => assumption); (case h5 => rfl))
  | ((with_reducible refine' g_sfld ?h1 ?h2 ?h3 ?h4 ?h5 ?_); (case h1 => assumption); (case h2 => walk_at "pk"); (case h3 => assumption); (case h4 => assumption); (case h5 => decide); intro H2 hh2)
  | ((with_reducible refine' g_meth ?h1 ?h2 ?h3 ?_); (case h1 => assumption); (case h2 => walk_at "mem"); (case h3 => rfl))
  | ((with_reducible refine' g_prop ?h1 ?h2 ?_); (case h1 => assumption); (case h2 => walk_at "mem"))
  | ((with_reducible refine' g_make ?h1 ?_); (case h1 => assumption); intro x H2 hh2)
  | ((with_reducible refine' g_cat ?h1 ?h2 ?h3 ?h4 ?_); (case h1 => assumption); (case h2 => walk_at "mem"); (case h3 => walk_at "mem"); (case h4 => walk_at "sz"); intro p H2 hh2)
  | ((with_reducible refine' g_inT ?h1 ?h2 ?h3 ?h4 ?h5 ?_); (case h1 => assumption); (case h2 => walk_at "mem"); (case h3 => rfl); (case h4 => rfl); (case h5 => rfl)))
local macro_rules | `(tactic| walk_at "gs") => `(tactic| repeat first | walk_at "s1" | walk_at "g1")
local macro_rules | `(tactic| walk_at "ite") => `(tactic| first
  | ((with_reducible refine' w_iteT ?h1 ?_); (case h1 => omega))
  | ((with_reducible refine' w_iteF ?h1 ?_); (case h1 => omega))
  | (with_reducible refine w_ite ?_ ?_ <;> intro hq)
  | ((with_reducible refine' w_iteNT ?h1 ?_); (case h1 => omega))
  | ((with_reducible refine' w_iteNF ?h1 ?_); (case h1 => omega))
  | (with_reducible refine w_iteN ?_ ?_ <;> intro hq))
local macro_rules | `(tactic| walk_at "go") => `(tactic| repeat' first | walk_at "s1" | walk_at "g1" | walk_at "ite")
local macro_rules | `(tactic| walk_at "g1") => `(tactic| first
  | ((with_reducible refine' g_take1 ?h1 ?h2 ?h3 ?h4 ?_); (case h1 => assumption); (case h2 => walk_at "spl"); (case h3 => omega); (case h4 => omega); intro k H2 hk1 hh2)
  | ((with_reducible refine' g_take ?h1 ?h2 ?h4 ?_); (case h1 => assumption); (case h2 => walk_at "spl"); (case h4 => omega); intro k H2 hk1 hh2)
  | ((with_reducible refine' g_betweenN ?h1 ?h2 ?h5 ?h3 ?h4 ?_); (case h1 => assumption); (case h2 => walk_at "spl"); (case h5 => omega); (case h3 => omega); (case h4 => omega); intro k H2 hk1 hk2 hh2)
  | ((with_reducible refine' g_between ?h1 ?h2 ?h3 ?h4 ?_); (case h1 => assumption); (case h2 => walk_at "spl"); (case h3 => omega); (case h4 => omega); intro k H2 hk1 hk2 hh2)
  | ((with_reducible refine' g_size ?h1 ?h2 ?h3 ?h4 ?_); (case h1 => assumption); (case h2 => walk_at "spl"); (case h3 => omega); (case h4 => omega); intro k H2 hk1 hh2)
  | ((with_reducible refine' g_word ?h1 ?h2 ?_); (case h1 => assumption); (case h2 => walk_at "spl"); intro k H2 hk1 hh2))
local macro_rules | `(tactic| walk_at "g1") => `(tactic| first | with_reducible refine w_sl ?_ | with_reducible refine w_part ?_ | with_reducible refine w_noPart ?_ | with_reducible refine w_exI ?_)
local macro_rules | `(tactic| walk_at "g1") => `(tactic| first | with_reducible refine w_din ?_ | with_reducible refine w_dnotin ?_ | with_reducible refine w_dget ?_ | with_reducible refine w_dput ?_ | with_reducible refine w_ddel ?_ | with_reducible refine w_dpop ?_)
section
variable {P : Program} {w : World} {K : PySem.W.Frag} {mg : Str → Option Value} {base : Heap} {aREG aOPS : Addr}
/-- every def of the text under its name -/
structure Defs (K : PySem.W.Frag) (mg : Str → Option Value) (C  : Addr) : Prop where
  is_integer : DefAt K mg "is_integer" s_is_integer
  is_in_range : DefAt K mg "is_in_range" s_is_in_range
  ask_range : DefAt K mg "ask_range" s_ask_range
  ask_truth : DefAt K mg "ask_truth" s_ask_truth
  mixed : DefAt K mg "_law_mixed" s__law_mixed
  store : DefAt K mg "_law_store" s__law_store
  take : DefAt K mg "_law_take" s__law_take
  pick : DefAt K mg "_law_pick" s__law_pick
  between : DefAt K mg "_law_between" s__law_between
  size : DefAt K mg "_law_size" s__law_size
  alike : DefAt K mg "_law_alike" s__law_alike
  copy : DefAt K mg "_law_copy" s__law_copy
  law_is_integer : DefAt K mg "_law_is_integer" s__law_is_integer
  called : DefAt K mg "_law_called" s__law_called
  named : DefAt K mg "_law_named" s__law_named
  drawn : DefAt K mg "_law_drawn" s__law_drawn
  due_rows : DefAt K mg "_law_due_rows" s__law_due_rows
  is_picked : DefAt K mg "_law_is_picked" s__law_is_picked
  after : DefAt K mg "_law_after" s__law_after
  m_leave : MetAt K C "leave" "Ages.leave" s_Ages__leave
  m_wake : MetAt K C "wake" "Ages.wake" s_Ages__wake
  m_sleep : MetAt K C "sleep" "Ages.sleep" s_Ages__sleep
  m_pick : MetAt K C "pick" "Ages.pick" s_Ages__pick
  m_priority : MetAt K C "priority" "Ages.priority" s_Ages__priority
  m_age : MetAt K C "age" "Ages.age" s_Ages__age
  m_rows : MetAt K C "rows" "Ages.rows" s_Ages__rows
  m_contains : MetAt K C "__contains__" "Ages.__contains__" s_Ages____contains__
  m_ask_member : MetAt K C "_ask_member" "Ages._ask_member" s_Ages___ask_member
  m_effective : MetAt K C "_effective" "Ages._effective" s_Ages___effective
theorem all_law {C f fI fE fL fS : Addr} {fd fdI fdE fdL fdS : FuncData} (T : Txt K mg aREG aOPS) (L : AgC K C) (D : Defs K mg C) (dI : DefM K "__init__" "Ages.__init__" s_Ages____init__ [] fI fdI) (mI : Mk K C fI) (gI : mg "Ages" = some (.ref C))
    (dE : EnF K C fE fdE) (mE : Meth K C "enter" fE) (dL : DefM K "lend" "Ages.lend" s_Ages__lend [.int 0] fL fdL) (mL : Meth K C "lend" fL) (dS : DefM K "_standing" "Ages._standing" s_Ages___standing [] fS fdS) (mS : BMeth K C "_standing" fS)
    (F : FunT K "law" s_law f fd) : FnOk P w K mg base CX0 8 f fd ["script"] (sp_law K) := by
  have mixed := c_mixed (P := P) (w := w) (base := base) T D.mixed
  have store := c_store (P := P) (w := w) (base := base) T D.store
  have take := c_take T D.take mixed
  have pick := c_pick T D.pick take
  have between := c_between T D.between take
  have size := c_size T D.size take
  have alike := c_alike (P := P) (w := w) (base := base) T D.alike 3
  have int_ := c_integer (P := P) (w := w) (base := base) T D.is_integer
  have range := c_range T D.is_in_range int_
  have ask := c_ask T D.ask_range range
  have askT := c_askT (P := P) (w := w) (base := base) T D.ask_truth
  have agI_ := c_agI (P := P) (w := w) (base := base) T L dI mI gI
  have askM := c_askM T L D.m_ask_member ask
  have eff := c_eff (P := P) (w := w) (mg := mg) (base := base) T L D.m_effective
  have std := f_std T L dS eff
  have prio := c_prio T L D.m_priority askM eff
  have age := c_age T L D.m_age askM
  have wake := c_wake T L D.m_wake askM
  have sleep := c_sleep T L D.m_sleep askM
  have lend1 := c_lend1 T L dL mL ask askM
  have lend2 := c_lend2 T L dL mL ask askM
  have enter1 := c_enter1 T L dE mE ask askT
  have enter2 := c_enter2 T L dE mE ask askT
  have enterK2 := ck_enter2 T L dE mE ask askT
  have leave := c_leave T L D.m_leave askM
  have cont := c_cont T L D.m_contains int_
  have rows := c_rows (P := P) (w := w) (mg := mg) (base := base) T L D.m_rows
  have pickA := c_pickA T L D.m_pick std mS
  have copy3 := c_copy (P := P) (w := w) (base := base) T D.copy 2
  have copyL := c_copyL 1 T D.copy copy3
  have called := c_called T L D.called pickA leave wake sleep lend1 lend2 enter1 enter2 enterK2
  have kleave := kk_leave T L D.m_leave askM
  have kwake := kk_wake T L D.m_wake askM
  have ksleep := kk_sleep T L D.m_sleep askM
  have klend := kk_lend T L dL mL ask askM
  have kenter := kk_enter T L dE mE ask askT
  have kprio := kk_prio T L D.m_priority askM eff
  have kage := kk_age T L D.m_age askM
  have named := c_named T L D.named kleave kwake ksleep klend kenter
  have lisint := c_lisint (P := P) (w := w) (base := base) T D.law_is_integer
  have drawn := c_drawn T D.drawn take pick between
  have due := c_due (P := P) (w := w) (base := base) T D.due_rows
  have picked := c_picked T D.is_picked alike lisint
  have after := c_after T L D.after named called rows picked due alike prio age kprio kage cont copyL
  exact c_law T L F store take between size agI_ enter2 rows copyL alike drawn after
end
end K23
namespace K23
open PySem PySem.Spec PyProof.Rows L2 Wk
theorem facts {P : Program} {w : World} {K : PySem.W.Frag} {h : Heap} {mg : Str → Option Value} {f : Addr} (X : K.In h) (G : h.Ns mainGlobals mg) (hfa : mg ("law" : Str) = some (.ref f)) (c : He.SaysX fa fn [] tf ex w h K) :
    ∃ fd : FuncData, (∀ (s : Shared) (v : Value), BindsTo s fd ⟨[v], []⟩ [("script", v)]) ∧ ∀ base : Heap, FnOk P w K mg base CX0 8 f fd ["script"] (sp_law K) := by
  have xb_standing := c.more
  obtain ⟨fd_is_integer, F_is_integer⟩ := c.t.d.def_ 0 (d := d_is_integer) rfl
  obtain ⟨fd_is_in_range, F_is_in_range⟩ := c.t.d.def_ 1 (d := d_is_in_range) rfl
  obtain ⟨fd_ask_range, F_ask_range⟩ := c.t.d.def_ 2 (d := d_ask_range) rfl
  obtain ⟨fd_ask_truth, F_ask_truth⟩ := c.t.d.def_ 3 (d := d_ask_truth) rfl
  obtain ⟨fd__law_mixed, F__law_mixed⟩ := c.t.d.def_ 4 (d := d__law_mixed) rfl
  obtain ⟨fd__law_store, F__law_store⟩ := c.t.d.def_ 5 (d := d__law_store) rfl
  obtain ⟨fd__law_take, F__law_take⟩ := c.t.d.def_ 6 (d := d__law_take) rfl
  obtain ⟨fd__law_pick, F__law_pick⟩ := c.t.d.def_ 7 (d := d__law_pick) rfl
  obtain ⟨fd__law_between, F__law_between⟩ := c.t.d.def_ 8 (d := d__law_between) rfl
  obtain ⟨fd__law_size, F__law_size⟩ := c.t.d.def_ 9 (d := d__law_size) rfl
  obtain ⟨fd__law_alike, F__law_alike⟩ := c.t.d.def_ 10 (d := d__law_alike) rfl
  obtain ⟨fd__law_copy, F__law_copy⟩ := c.t.d.def_ 11 (d := d__law_copy) rfl
  obtain ⟨fd__law_is_integer, F__law_is_integer⟩ := c.t.d.def_ 12 (d := d__law_is_integer) rfl
  obtain ⟨fd__law_called, F__law_called⟩ := c.t.d.def_ 13 (d := d__law_called) rfl
  obtain ⟨fd__law_named, F__law_named⟩ := c.t.d.def_ 14 (d := d__law_named) rfl
  obtain ⟨fd__law_drawn, F__law_drawn⟩ := c.t.d.def_ 15 (d := d__law_drawn) rfl
  obtain ⟨fd__law_due_rows, F__law_due_rows⟩ := c.t.d.def_ 16 (d := d__law_due_rows) rfl
  obtain ⟨fd__law_is_picked, F__law_is_picked⟩ := c.t.d.def_ 17 (d := d__law_is_picked) rfl
  obtain ⟨fd__law_after, F__law_after⟩ := c.t.d.def_ 18 (d := d__law_after) rfl
  obtain ⟨fd_law, F_law⟩ := c.t.d.def_ 19 (d := d_law) rfl
  obtain ⟨fdM_leave, FM_leave⟩ := c.t.d.def_ 20 (d := d_M_leave) rfl
  obtain ⟨fdM_wake, FM_wake⟩ := c.t.d.def_ 21 (d := d_M_wake) rfl
  obtain ⟨fdM_sleep, FM_sleep⟩ := c.t.d.def_ 22 (d := d_M_sleep) rfl
  obtain ⟨fdM_pick, FM_pick⟩ := c.t.d.def_ 23 (d := d_M_pick) rfl
  obtain ⟨fdM_priority, FM_priority⟩ := c.t.d.def_ 24 (d := d_M_priority) rfl
  obtain ⟨fdM_age, FM_age⟩ := c.t.d.def_ 25 (d := d_M_age) rfl
  obtain ⟨fdM_rows, FM_rows⟩ := c.t.d.def_ 26 (d := d_M_rows) rfl
  obtain ⟨fdM___contains__, FM___contains__⟩ := c.t.d.def_ 27 (d := d_M___contains__) rfl
  obtain ⟨fdM__ask_member, FM__ask_member⟩ := c.t.d.def_ 28 (d := d_M__ask_member) rfl
  obtain ⟨fdM__effective, FM__effective⟩ := c.t.d.def_ 29 (d := d_M__effective) rfl
  obtain ⟨fdM_enter, FM_enter⟩ := c.t.d.def_ 30 (d := d_M_enter) rfl
  obtain ⟨fdM_lend, FM_lend⟩ := c.t.d.def_ 31 (d := d_M_lend) rfl
  obtain ⟨fdM__standing, FM__standing⟩ := c.t.d.def_ 32 (d := d_M__standing) rfl
  obtain ⟨fdM___init__, FM___init__⟩ := c.t.d.def_ 33 (d := d_M___init__) rfl
  have e := hfa.symm.trans (He.glo_ok X G (c.t.d.fact 19 (f := .glo "law") rfl))
  cases e
  have b := FunD.bindsA (ps := ["script"]) F_law fun _ _ _ _ _ _ us hl => match us, hl with | [_], _ => rfl
  have T : Txt K mg 0 0 := ⟨⟨He.free_ok X G (c.t.d.fact 37 (f := .free "int") rfl), He.free_ok X G (c.t.d.fact 38 (f := .free "len") rfl), He.free_ok X G (c.t.d.fact 39 (f := .free "range") rfl), He.free_ok X G (c.t.d.fact 40 (f := .free "list") rfl), He.free_ok X G (c.t.d.fact 41 (f := .free "abs") rfl), He.free_ok X G (c.t.d.fact 42 (f := .free "min") rfl), He.free_ok X G (c.t.d.fact 43 (f := .free "max") rfl), He.free_ok X G (c.t.d.fact 44 (f := .free "isinstance") rfl), He.free_ok X G (c.t.d.fact 45 (f := .free "bool") rfl), He.free_ok X G (c.t.d.fact 46 (f := .free "str") rfl), He.free_ok X G (c.t.d.fact 47 (f := .free "tuple") rfl), He.free_ok X G (c.t.d.fact 48 (f := .free "dict") rfl), He.free_ok X G (c.t.d.fact 49 (f := .free "sorted") rfl), He.free_ok X G (c.t.d.fact 50 (f := .free "all") rfl), He.free_ok X G (c.t.d.fact 51 (f := .free "any") rfl), He.free_ok X G (c.t.d.fact 52 (f := .free "zip") rfl), He.free_ok X G (c.t.d.fact 53 (f := .free "enumerate") rfl), He.free_ok X G (c.t.d.fact 54 (f := .free "sum") rfl)⟩⟩
  have cl := He.cls_ok (c.t.d.fact 21 (f := .cls "Ages") rfl)
  have L : AgC K (He.ga K "Ages") := ⟨cl, He.noat_ok (c.t.d.fact 22 (f := .noat "Ages" "_members") rfl)⟩
  have D : Defs K mg (He.ga K "Ages")  := ⟨
    ⟨_, _, F_is_integer, He.glo_ok X G (c.t.d.fact 0 (f := .glo "is_integer") rfl)⟩,
    ⟨_, _, F_is_in_range, He.glo_ok X G (c.t.d.fact 1 (f := .glo "is_in_range") rfl)⟩,
    ⟨_, _, F_ask_range, He.glo_ok X G (c.t.d.fact 2 (f := .glo "ask_range") rfl)⟩,
    ⟨_, _, F_ask_truth, He.glo_ok X G (c.t.d.fact 3 (f := .glo "ask_truth") rfl)⟩,
    ⟨_, _, F__law_mixed, He.glo_ok X G (c.t.d.fact 4 (f := .glo "_law_mixed") rfl)⟩,
    ⟨_, _, F__law_store, He.glo_ok X G (c.t.d.fact 5 (f := .glo "_law_store") rfl)⟩,
    ⟨_, _, F__law_take, He.glo_ok X G (c.t.d.fact 6 (f := .glo "_law_take") rfl)⟩,
    ⟨_, _, F__law_pick, He.glo_ok X G (c.t.d.fact 7 (f := .glo "_law_pick") rfl)⟩,
    ⟨_, _, F__law_between, He.glo_ok X G (c.t.d.fact 8 (f := .glo "_law_between") rfl)⟩,
    ⟨_, _, F__law_size, He.glo_ok X G (c.t.d.fact 9 (f := .glo "_law_size") rfl)⟩,
    ⟨_, _, F__law_alike, He.glo_ok X G (c.t.d.fact 10 (f := .glo "_law_alike") rfl)⟩,
    ⟨_, _, F__law_copy, He.glo_ok X G (c.t.d.fact 11 (f := .glo "_law_copy") rfl)⟩,
    ⟨_, _, F__law_is_integer, He.glo_ok X G (c.t.d.fact 12 (f := .glo "_law_is_integer") rfl)⟩,
    ⟨_, _, F__law_called, He.glo_ok X G (c.t.d.fact 13 (f := .glo "_law_called") rfl)⟩,
    ⟨_, _, F__law_named, He.glo_ok X G (c.t.d.fact 14 (f := .glo "_law_named") rfl)⟩,
    ⟨_, _, F__law_drawn, He.glo_ok X G (c.t.d.fact 15 (f := .glo "_law_drawn") rfl)⟩,
    ⟨_, _, F__law_due_rows, He.glo_ok X G (c.t.d.fact 16 (f := .glo "_law_due_rows") rfl)⟩,
    ⟨_, _, F__law_is_picked, He.glo_ok X G (c.t.d.fact 17 (f := .glo "_law_is_picked") rfl)⟩,
    ⟨_, _, F__law_after, He.glo_ok X G (c.t.d.fact 18 (f := .glo "_law_after") rfl)⟩,
    ⟨_, _, FM_leave, cl, He.meth_ok (c.t.d.fact 24 (f := .meth "Ages" "leave") rfl)⟩,
    ⟨_, _, FM_wake, cl, He.meth_ok (c.t.d.fact 25 (f := .meth "Ages" "wake") rfl)⟩,
    ⟨_, _, FM_sleep, cl, He.meth_ok (c.t.d.fact 26 (f := .meth "Ages" "sleep") rfl)⟩,
    ⟨_, _, FM_pick, cl, He.meth_ok (c.t.d.fact 27 (f := .meth "Ages" "pick") rfl)⟩,
    ⟨_, _, FM_priority, cl, He.meth_ok (c.t.d.fact 28 (f := .meth "Ages" "priority") rfl)⟩,
    ⟨_, _, FM_age, cl, He.meth_ok (c.t.d.fact 29 (f := .meth "Ages" "age") rfl)⟩,
    ⟨_, _, FM_rows, cl, He.meth_ok (c.t.d.fact 30 (f := .meth "Ages" "rows") rfl)⟩,
    ⟨_, _, FM___contains__, cl, He.meth_ok (c.t.d.fact 31 (f := .meth "Ages" "__contains__") rfl)⟩,
    ⟨_, _, FM__ask_member, cl, He.meth_ok (c.t.d.fact 32 (f := .meth "Ages" "_ask_member") rfl)⟩,
    ⟨_, _, FM__effective, cl, He.meth_ok (c.t.d.fact 33 (f := .meth "Ages" "_effective") rfl)⟩⟩
  refine ⟨fd_law, fun s v => b s [v] rfl, fun base  => ?_⟩
  exact all_law T  L D FM___init__ (He.mkr_ok (c.t.d.fact 23 (f := .mkr "Ages") rfl)) (He.glo_ok X G (c.t.d.fact 20 (f := .glo "Ages") rfl)) FM_enter (He.meth_ok (c.t.d.fact 34 (f := .meth "Ages" "enter") rfl)) FM_lend (He.meth_ok (c.t.d.fact 35 (f := .meth "Ages" "lend") rfl)) FM__standing (bmB_ok xb_standing (He.meth_ok (c.t.d.fact 36 (f := .meth "Ages" "_standing") rfl))) F_law
end K23
open PySem PySem.W PySem.Calls PyProof.Rows
theorem PySem.Challenge.cw_wardwork_k23_each_deed_changes_one_row_holds : PySem.Challenge.rw_wardwork_k23_each_deed_changes_one_row.Holds := by
  w_on; o_law
  refine HandSHeadRun.head_any (r := OpenLaw.row PySem.Challenge.rw_wardwork_k23_each_deed_changes_one_row) (q := view (OpenLaw.row PySem.Challenge.rw_wardwork_k23_each_deed_changes_one_row).prog [29]) (H := K23.hookY) (ob := K23.ob) (M := 20000) (loose := K23.loose) (d := HandSHeadRun.topDef (OpenLaw.row PySem.Challenge.rw_wardwork_k23_each_deed_changes_one_row).prog 29) (kwd := []) K23.ob_eq
    (by kernel_rfl) (fun s => by kernel_rfl) K23.run (by kernel_rfl) (by kernel_rfl) (by kernel_rfl) (by rfl) (by first | assumption | decide +kernel) (by decide +kernel) ⟨rfl, rfl, rfl, rfl, rfl, by decide +kernel⟩ ?hw ?hc
  case hw => w_witness2
  case hc =>
    refine LamX.walk_ofTsE (l := PySem.Challenge.rw_wardwork_k23_each_deed_changes_one_row) (n := 63) (k := 8) (x := "script") (CX := fun _ => C8.CX0) rfl (by decide) (by kernel_rfl) ⟨rfl, by decide, by decide⟩ ?F (fun _ _ _ _ _ z => z)
    intro w mg fa h Y G hmg0
    obtain ⟨K, KX, c⟩ := Y
    have hmg : mg ("law" : PySem.Str) = some (.ref fa) := by
      have e : (HandSHeadRun.topDef (OpenLaw.row PySem.Challenge.rw_wardwork_k23_each_deed_changes_one_row).prog 29).name = ("law" : PySem.Str) := by kernel_rfl
      rw [← e]
      exact hmg0
    obtain ⟨fd, hb, hF⟩ := K23.facts (P := (PySem.Challenge.rw_wardwork_k23_each_deed_changes_one_row).prog) (w := w) KX G hmg c
    refine ⟨K, KX, fd, [], K23.sp_law K, fun p hp => ?_, fun p hp => ?_, fun p hp => ?_, hb, fun H a ns hl _ hT hS => ⟨a, ns, rfl, hS, hl, fun _ => rfl⟩, fun base _ _ hTB => ?_⟩
    · cases hp
    · cases hp
    · cases hp
    · exact hF base
