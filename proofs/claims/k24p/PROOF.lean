import PyProof.Rows.All
import Wide.All
import OpenK.AllK
import Wide.FinOn
import HandS.AnyAll
import HandS.Codes
import HandS.Conv
import HandS.Defaults
import HandS.Ends
import HandS.Evl
import HandS.ExcField
import HandS.ExcInit
import HandS.ExcIs
import HandS.ExcOwn
import HandS.FStr
import HandS.ForMost
import HandS.Head0
import HandS.Head1
import HandS.Head2
import HandS.HeadEnd
import HandS.HeadHook1
import HandS.HeadHook2
import HandS.HeadHook3
import HandS.HeadHook4
import HandS.HeadNt
import HandS.HeadWalk
import HandS.HotCalls
import HandS.IsInst
import HandS.MakeKw
import HandS.MakeKwOnly
import HandS.More
import HandS.Property
import HandS.SetFor
import HandS.SortInts
import HandS.SortKw
import HandS.Star
import HandS.Steps
import HandS.Strs
import HandS.Walk
import HandS.Wide
import HandS.Words
import HandS.WordsExc
import KE.KExcIs
import KE.KMinKey
import KE.SortData
import PySem.Challenge.RW_wardwork_k24_wait_within_the_bound
set_option Elab.async false
set_option linter.all false
set_option maxRecDepth 100000
set_option maxHeartbeats 4000000
/-! Wk: rules that the layer lacks, and steps that read a term from the left. -/
namespace Wk
open PySem PySem.Spec PyProof.Rows L2

/-! ### rules -/
section
variable {X : Cx}
theorem get_list : PGet X (rIxL X.K) := by
  intro pins s σ H o i ov iv Q I ro ri h
  obtain ⟨p, xs, k, z, rfl, rfl, hq, he, q⟩ := h
  cases ro
  obtain ⟨t, rfl⟩ := ri
  obtain ⟨its, r, pl, hz⟩ := I.list hq
  obtain ⟨j, e1, e2, e3, e4, e5⟩ := atI_get he
  obtain ⟨w, ew, rw'⟩ := r.get e2
  have hl := r.length
  have hn := line63
  have done : EP X pins σ Q w s := ⟨z, H, I, rw', q⟩
  by_cases h0 : 0 ≤ k
  · have hj : k.toNat = j := by
      rw [seqIndex_of h0 e5] at e1
      exact Option.some.inj e1
    exact wpAny_getItem_list pl.isList h0 (by omega) (by rw [hj]; simpa using ew) done
  · have hj : (k + (its.toArray.size : Int)).toNat = j := by
      rw [seqIndex_neg (by omega) e4] at e1
      rw [List.size_toArray, ← hl]
      exact Option.some.inj e1
    exact wpAny_getItem_list_neg pl.isList (by omega) (by rw [List.size_toArray] <;> omega) (by omega) (by rw [hj]; simpa using ew) done
end

/-- the built-in names that the module leaves as they are -/
structure Bt (mg : Str → Option Value) : Prop where
  b_int : mg "int" = none
  b_len : mg "len" = none
  b_range : mg "range" = none
  b_list : mg "list" = none
  b_abs : mg "abs" = none
  b_min : mg "min" = none
  b_max : mg "max" = none
  b_isinstance : mg "isinstance" = none
  b_bool : mg "bool" = none
  b_str : mg "str" = none
  b_tuple : mg "tuple" = none
  b_dict : mg "dict" = none
  b_sorted : mg "sorted" = none
  b_all : mg "all" = none
  b_any : mg "any" = none
  b_zip : mg "zip" = none
  b_enumerate : mg "enumerate" = none
  b_sum : mg "sum" = none
/-! ### heaps: how they may change -/
/-- all that H knows outside S stands in H' -/
def Upt (S : List Addr) (H H' : Hp) : Prop := ∀ b o, b ∉ S → H b = some o → H' b = some o
theorem Upt.refl {S : List Addr} (H : Hp) : Upt S H H := fun _ _ _ h => h
theorem Upt.trans {S : List Addr} {H H1 H2 : Hp} (a : Upt S H H1) (b : Upt S H1 H2) : Upt S H H2 := fun c o n h => b c o n (a c o n h)
theorem Upt.mono {S T : List Addr} {H H1 : Hp} (h : ∀ b ∈ S, b ∈ T) (a : Upt S H H1) : Upt T H H1 := fun c o n e => a c o (fun z => n (h c z)) e
theorem Upt.at1 {s b : Addr} {o : HO} {H H1 : Hp} (a : Upt [s] H H1) (n : b ≠ s) (e : H b = some o) : H1 b = some o := a b o (fun z => n (List.mem_singleton.mp z)) e
theorem Upt.at0 {b : Addr} {o : HO} {H H1 : Hp} (a : Upt [] H H1) (e : H b = some o) : H1 b = some o := a b o (fun z => by cases z) e
theorem Upt.free {S : List Addr} {H H1 : Hp} {b : Addr} (a : Upt S H H1) (n : b ∉ S) (e : H1 b = none) : H b = none := by
  cases q : H b with
  | none => rfl
  | some o => rw [a b o n q] at e; cases e
theorem Upt.upd {s : Addr} {o : HO} {H : Hp} : Upt [s] H (upd H s o) := fun b u n e => by
  rw [upd_ne (fun z => n (List.mem_singleton.mpr z))]; exact e
theorem Upt.seqL {S : List Addr} {K : PySem.W.Frag} {H H1 : Hp} {a : Addr} {xs : List V} (u : Upt S H H1) (n : a ∉ S) (h : SqL K H a xs) : SqL K H1 a xs := by
  rcases h with (h | ⟨o, h⟩) | h
  · exact .inl (.inl (u _ _ n h))
  · exact .inl (.inr ⟨o, u _ _ n h⟩)
  · exact .inr h
theorem Upt.seqT {S : List Addr} {K : PySem.W.Frag} {H H1 : Hp} {a : Addr} {xs : List V} (u : Upt S H H1) (n : a ∉ S) (h : SqT K H a xs) : SqT K H1 a xs := by
  rcases h with (h | ⟨o, h⟩) | h
  · exact .inl (.inl (u _ _ n h))
  · exact .inl (.inr ⟨o, u _ _ n h⟩)
  · exact .inr h
theorem _root_.L2.SqL.upt {K : PySem.W.Frag} {H H1 : Hp} {a : Addr} {xs : List V} (h : SqL K H a xs) (u : Upt [] H H1) : SqL K H1 a xs := u.seqL (by simp) h
theorem _root_.L2.SqT.upt {K : PySem.W.Frag} {H H1 : Hp} {a : Addr} {xs : List V} (h : SqT K H a xs) (u : Upt [] H H1) : SqT K H1 a xs := u.seqT (by simp) h
/-- o is new at p -/
structure New (H H' : Hp) (p : Addr) (o : HO) : Prop where
  no : H p = none
  at_ : H' p = some o
  keep : Upt [] H H'
theorem New.of {H : Hp} {p : Addr} {o : HO} (h : H p = none) : New H (upd H p o) p o := ⟨h, upd_same, fun b u _ e => by rw [upd_ne (ne_of_none e h)]; exact e⟩
theorem New.ne {H H' : Hp} {p b : Addr} {o u : HO} (n : New H H' p o) (h : H b = some u) : b ≠ p := ne_of_none h n.no
theorem New.ne' {H H' : Hp} {p b : Addr} {o u : HO} (n : New H H' p o) (h : H b = some u) : p ≠ b := Ne.symm (n.ne h)
/-- o stands at l now, nothing else has changed -/
structure Chg (H H' : Hp) (l : Addr) (o : HO) : Prop where
  at_ : H' l = some o
  keep : Upt [l] H H'
theorem Chg.of {H : Hp} {p : Addr} {o : HO} : Chg H (upd H p o) p o := ⟨upd_same, Upt.upd⟩

/-! ### steps -/
section
variable {K : PySem.W.Frag} {σ : L2.St} {H : Hp} {Q : VK} {QA : List V → Hp → Prop} {QT : Bool → Hp → Prop} {ta tb tc te tv : TE} {tt tu : TT} {t tr : TA} {u1 u2 : TS} {D : Ends} {v x y : V} {i j : Int} {r : R2}
theorem w_var {n : Nat} (h : σ[n]? = some (some v)) (q : Q v H) : tVar n σ H Q := ⟨v, h, q⟩
theorem w_c (q : Q v H) : tC v σ H Q := q
theorem w_op (h : ta σ H fun x H1 => tb σ H1 fun y H2 => r x y H2 Q) : tOp r ta tb σ H Q := h
theorem w_un {g : V → Hp → VK → Prop} (h : ta σ H fun x H1 => g x H1 Q) : tUn g ta σ H Q := h
theorem w_I0 {g : Int → Int → V} (q : Q (g i j) H) : rI0 g (.int i) (.int j) H Q := ⟨i, j, rfl, rfl, q⟩
theorem w_I {C : Int → Int → Prop} {g : Int → Int → V} (c : C i j) (q : Q (g i j) H) : rI C g (.int i) (.int j) H Q := ⟨i, j, rfl, rfl, c, q⟩
theorem w_U {g : Int → V} (q : Q (g i) H) : rU g (.int i) H Q := ⟨i, rfl, q⟩
theorem w_eq (h : scal x y = true) (q : Q (.bl (decide (x = y))) H) : rEq x y H Q := ⟨h, q⟩
theorem w_ne (h : scal x y = true) (q : Q (.bl (!decide (x = y))) H) : rNe x y H Q := ⟨h, q⟩
theorem dec_int (i j : Int) : decide (V.int i = V.int j) = decide (i = j) := by
  by_cases h : i = j
  · subst h; simp
  · rw [decide_eq_false h, decide_eq_false (fun e => h (V.int.inj e))]
theorem dec_str (i j : Str) : decide (V.str i = V.str j) = decide (i = j) := by
  by_cases h : i = j
  · subst h; simp
  · rw [decide_eq_false h, decide_eq_false (fun e => h (V.str.inj e))]
theorem w_eqI (q : Q (.bl (decide (i = j))) H) : rEq (.int i) (.int j) H Q := ⟨rfl, by rw [dec_int]; exact q⟩
theorem w_neI (q : Q (.bl (!decide (i = j))) H) : rNe (.int i) (.int j) H Q := ⟨rfl, by rw [dec_int]; exact q⟩
theorem w_eqS {a b : Str} (q : Q (.bl (decide (a = b))) H) : rEq (.str a) (.str b) H Q := ⟨rfl, by rw [dec_str]; exact q⟩
theorem w_neS {a b : Str} (q : Q (.bl (!decide (a = b))) H) : rNe (.str a) (.str b) H Q := ⟨rfl, by rw [dec_str]; exact q⟩
theorem w_test (h : te σ H fun x H' => ∃ k, x = .bl k ∧ QT k H') : tTest te σ H QT := h
theorem w_tB (h : te σ H fun x H' => ∃ k, x = .bl k ∧ QT k H') : tB te σ H QT := h
theorem w_k {b : Bool} {P : Bool → Prop} (q : P b) : ∃ k, V.bl b = .bl k ∧ P k := ⟨b, rfl, q⟩
theorem w_not (h : tt σ H fun c H1 => QT (!c) H1) : tNot tt σ H QT := h
theorem w_and (h : tt σ H fun c H1 => if c = true then tu σ H1 QT else QT false H1) : tAnd tt tu σ H QT := h
theorem w_or (h : tt σ H fun c H1 => if c = true then QT true H1 else tu σ H1 QT) : tOr tt tu σ H QT := h
theorem w_andV (h : ta σ H fun x H1 => ∃ c, x = .bl c ∧ if c = true then tb σ H1 Q else Q (.bl false) H1) : tAndV ta tb σ H Q := h
theorem w_orV (h : ta σ H fun x H1 => ∃ c, x = .bl c ∧ if c = true then Q (.bl true) H1 else tb σ H1 Q) : tOrV ta tb σ H Q := h
theorem w_notV (h : ta σ H fun x H1 => ∃ c, x = .bl c ∧ Q (.bl (!c)) H1) : tNotV ta σ H Q := h
theorem w_ifE (h : tt σ H fun c H1 => if c = true then ta σ H1 Q else tb σ H1 Q) : tIf tt ta tb σ H Q := h
theorem w_next (h : D.nx σ H) : tNext D σ H := h
theorem w_seq (h : u1 { D with nx := u2 D } σ H) : tSeq u1 u2 D σ H := h
theorem w_ifS (h : tt σ H fun b H1 => if b = true then u1 D σ H1 else u2 D σ H1) : tIfS tt u1 u2 D σ H := h
theorem w_ret (h : te σ H D.rt) : tRet te D σ H := h
theorem w_retN (h : D.rt .non H) : tRetN D σ H := h
theorem w_drop (h : te σ H fun _ H1 => D.nx σ H1) : tDrop te D σ H := h
theorem w_set {n : Nat} (h : te σ H fun x H1 => D.nx (σ.set n (some x)) H1) : tAsg te (gName n) D σ H := h
theorem w_asg {g : TG} (h : te σ H fun x H1 => g x σ H1 D.nx) : tAsg te g D σ H := h
theorem w_nil (q : QA [] H) : tNil σ H QA := q
theorem w_cons (h : ta σ H fun x H1 => tr σ H1 fun xs H2 => QA (x :: xs) H2) : tCons ta tr σ H QA := h
/-- a new object, and what follows with its address -/
def KNew (n : Nat) (H : Hp) (o : HO) (Q : VK) : Prop := n ≤ sizeLine ∧ ∀ p, H p = none → Q (.ref p) (upd H p o)
theorem w_tup (h : t σ H fun xs H1 => KNew xs.length H1 (.tup xs) Q) : tTup t σ H Q := h
theorem w_lst (h : t σ H fun xs H1 => KNew xs.length H1 (.lst xs) Q) : tLst t σ H Q := h
theorem w_new {n : Nat} {o : HO} (hs : n ≤ sizeLine) (h : ∀ p H2, New H H2 p o → Q (.ref p) H2) : KNew n H o Q := ⟨hs, fun p hp => h p _ (New.of hp)⟩
theorem w_dnew (h : ∀ p H2, New H H2 p (.dK []) → Q (.ref p) H2) : tDNewK σ H Q := fun p hp => h p _ (New.of hp)
/-- an attribute read -/
def KFld (K : PySem.W.Frag) (f : Str) (x : V) (H : Hp) (Q : VK) : Prop := ∃ a C dx fs v, x = .ref a ∧ H a = some (.ins C dx fs) ∧ Cls K C ∧ NoAttr K C f ∧ fs.lookup f = some v ∧ Q v H
theorem w_fld {f : Str} (h : ta σ H fun x H1 => KFld K f x H1 Q) : tFld K ta f σ H Q := h
theorem w_kfld {f : Str} {a C dx : Addr} {fs : List (Str × V)} (ho : H a = some (.ins C dx fs)) (c : Cls K C) (n : NoAttr K C f) (l : fs.lookup f = some v) (q : Q v H) : KFld K f (.ref a) H Q := ⟨a, C, dx, fs, v, rfl, ho, c, n, l, q⟩
/-- calls of built-ins -/
def CB (g : List V → Hp → VK → Prop) (vs : List V) (H : Hp) (Q : VK) : Prop := g vs H Q
theorem w_cb {g : List V → Hp → VK → Prop} (h : t σ H fun vs H1 => CB g vs H1 Q) : tCB g t σ H Q := h
/-- calls of defs -/
theorem w_call {sp : Sp} {E : XK} (h : t σ H fun vs H1 => sp vs H1 Q E) : tCall sp [] E t σ H Q := by
  show t σ H fun vs H1 => sp (vs ++ []) H1 Q E
  simpa only [List.append_nil] using h
theorem w_callD {sp : Sp} {E : XK} {dvs : List V} (h : t σ H fun vs H1 => sp (vs ++ dvs) H1 Q E) : tCall sp dvs E t σ H Q := h
/-- methods of lists, texts -/
def KBM (K : PySem.W.Frag) (T : String) (g : V → List V → Hp → VK → Prop) (t : TA) (σ : L2.St) (x : V) (H : Hp) (Q : VK) : Prop := tyV K T x H ∧ t σ H fun xs H2 => g x xs H2 Q
theorem w_bm {T : String} {g : V → List V → Hp → VK → Prop} (h : ta σ H fun x H1 => KBM K T g t σ x H1 Q) : tBM K T g ta t σ H Q := h
theorem w_kbm {T : String} {g : V → List V → Hp → VK → Prop} (ty : tyV K T x H) (h : t σ H fun xs H2 => g x xs H2 Q) : KBM K T g t σ x H Q := ⟨ty, h⟩
def KBM0 (K : PySem.W.Frag) (T : String) (g : V → List V → Hp → VK → Prop) (x : V) (H : Hp) (Q : VK) : Prop := tyV K T x H ∧ g x [] H Q
theorem w_bm0 {T : String} {g : V → List V → Hp → VK → Prop} (h : ta σ H fun x H1 => KBM0 K T g x H1 Q) : tBM0 K T g ta σ H Q := h
theorem w_kbm0 {T : String} {g : V → List V → Hp → VK → Prop} (ty : tyV K T x H) (h : g x [] H Q) : KBM0 K T g x H Q := ⟨ty, h⟩
theorem ty_list {p : Addr} {xs : List V} (h : SqL K H p xs) : tyV K "list" (.ref p) H := Or.inl ⟨rfl, _, h⟩
theorem w_append {l : Addr} {xs : List V} (h : H l = some (.lst xs)) (hz : xs.length < sizeLine) (q : ∀ H2, Chg H H2 l (.lst (xs ++ [y])) → Q .non H2) : rAppend (.ref l) [y] H Q := ⟨l, xs, y, rfl, rfl, h, hz, q _ Chg.of⟩
theorem w_popAt {l : Addr} {xs : List V} {n : Nat} (h : H l = some (.lst xs)) (hn : n < xs.length) (hb : n < 2 ^ 62) (hv : xs[n]? = some y) (q : ∀ H2, Chg H H2 l (.lst (xs.eraseIdx n)) → Q y H2) : rPopAt (.ref l) [.int (n : Int)] H Q :=
  ⟨l, xs, (n : Int), n, y, rfl, rfl, h, by omega, by omega, by rw [seqIndex_of (by omega) (by omega)]; simp, hv, q _ Chg.of⟩
/-- items -/
theorem w_ixL {p : Addr} {xs : List V} (h : SqL K H p xs) (ha : atI xs i = some v) (q : Q v H) : rIxL K (.ref p) (.int i) H Q := ⟨p, xs, i, v, rfl, rfl, h, ha, q⟩
theorem w_ixT {p : Addr} {xs : List V} (h : SqT K H p xs) (ha : atI xs i = some v) (q : Q v H) : rIxT K (.ref p) (.int i) H Q := ⟨p, xs, i, v, rfl, rfl, h, ha, q⟩
theorem w_ixS {z : Str} {c : Nat} (hz : z.length ≤ sizeLine) (ha : atI z.cps.toList i = some c) (q : Q (.str ⟨#[c]⟩) H) : rIxS (.str z) (.int i) H Q := ⟨z, i, c, rfl, rfl, hz, ha, q⟩
theorem w_setI {p : Addr} {xs : List V} {n : Nat} {P : Hp → Prop} (h : H p = some (.lst xs)) (hn : ixN xs.length i = some n) (q : ∀ H2, Chg H H2 p (.lst (xs.set n v)) → P H2) : rSetL (.ref p) (.int i) v H P := ⟨p, xs, i, n, rfl, rfl, h, hn, q _ Chg.of⟩
theorem w_gsub {t0 t1 : TE} {ts : TSet} {P : L2.St → Hp → Prop} (h : t0 σ H fun o H1 => t1 σ H1 fun i H2 => ts o i v H2 fun H3 => P σ H3) : gSub t0 t1 ts v σ H P := h
theorem w_aug {n : Nat} {ti : TIp} (hx : σ[n]? = some (some x)) (h : te σ H fun y H1 => ti x y H1 fun z H2 => D.nx (σ.set n (some z)) H2) : tAug n te ti D σ H := ⟨x, hx, h⟩
theorem w_augS {t0 t1 : TE} {tg : V → V → Hp → VK → Prop} {ti : TIp} {ts : TSet} (h : t0 σ H fun o H1 => t1 σ H1 fun i H2 => tg o i H2 fun x H3 => te σ H3 fun y H4 => ti x y H4 fun z H5 => ts o i z H5 fun H6 => D.nx σ H6) : tAugS t0 t1 te tg ti ts D σ H := h
theorem w_ipI {f : Int → Int → Int} (q : Q (.int (f i j)) H) : ipI f (.int i) (.int j) H Q := ⟨i, j, rfl, rfl, q⟩
theorem w_ixAny {p : Addr} {xs : List V} (h : SqL K H p xs ∨ SqT K H p xs) (ha : atI xs i = some v) (q : Q v H) : rIx K (.ref p) (.int i) H Q := by
  rcases h with h | h
  · exact .inl (w_ixL h ha q)
  · exact .inr (.inl (w_ixT h ha q))
theorem w_ixAnyS {z : Str} {c : Nat} (hz : z.length ≤ sizeLine) (ha : atI z.cps.toList i = some c) (q : Q (.str ⟨#[c]⟩) H) : rIx K (.str z) (.int i) H Q := .inr (.inr (w_ixS hz ha q))
/-- ways -/
theorem w_ite {p : Prop} [Decidable p] {A B : Prop} (h1 : p → A) (h2 : ¬ p → B) : if decide p = true then A else B := by
  by_cases h : p
  · rw [decide_eq_true h]; exact h1 h
  · rw [decide_eq_false h]; exact h2 h
theorem w_iteN {p : Prop} [Decidable p] {A B : Prop} (h1 : ¬ p → A) (h2 : p → B) : if (!decide p) = true then A else B := by
  by_cases h : p
  · rw [decide_eq_true h]; exact h2 h
  · rw [decide_eq_false h]; exact h1 h
theorem w_iteT {p : Prop} [Decidable p] {A B : Prop} (hp : p) (h : A) : if decide p = true then A else B := by rw [decide_eq_true hp]; exact h
theorem w_iteF {p : Prop} [Decidable p] {A B : Prop} (hp : ¬ p) (h : B) : if decide p = true then A else B := by rw [decide_eq_false hp]; exact h
theorem w_iteNT {p : Prop} [Decidable p] {A B : Prop} (hp : ¬ p) (h : A) : if (!decide p) = true then A else B := by rw [decide_eq_false hp]; exact h
theorem w_iteNF {p : Prop} [Decidable p] {A B : Prop} (hp : p) (h : B) : if (!decide p) = true then A else B := by rw [decide_eq_true hp]; exact h
theorem w_true {A B : Prop} (h : A) : if true = true then A else B := h
theorem w_false {A B : Prop} (h : B) : if false = true then A else B := h
theorem w_ntrue {A B : Prop} (h : B) : if (!true) = true then A else B := h
theorem w_nfalse {A B : Prop} (h : A) : if (!false) = true then A else B := h
end
theorem w_cut {u1 u2 : TS} {D : Ends} {σ : L2.St} {H : Hp} (Mid : L2.St → Hp → Prop) (h1 : u1 { D with nx := Mid } σ H) (h2 : ∀ σ' H', Mid σ' H' → u2 D σ' H') : C8.tCut u1 u2 D σ H := ⟨Mid, h1, h2⟩
theorem log2_lt {m : Int} (h0 : 0 < m) (h1 : m ≤ 4611686018427387904) : CDivW 0 m := ⟨h0, by
  have h : m.natAbs < 2 ^ 63 := by omega
  have := Nat.log2_lt (n := m.natAbs) (k := 63) (by omega)
  omega⟩
theorem item_int {ns : List Int} {i : Nat} {y : V} (h : (ns.map V.int)[i]? = some y) : ∃ n, y = V.int n := by
  rw [List.getElem?_map] at h
  cases e : ns[i]? with
  | none => rw [e] at h; cases h
  | some n => rw [e] at h; exact ⟨n, (Option.some.inj h).symm⟩
theorem atI_ints {ns : List Int} {i : Int} (h0 : 0 ≤ i) (h1 : i < ns.length) : ∃ n, n ∈ ns ∧ atI (ns.map V.int) i = some (V.int n) := by
  obtain ⟨j, rfl⟩ := Int.eq_ofNat_of_zero_le h0
  have hj : j < ns.length := by omega
  exact ⟨ns[j], List.getElem_mem hj, atI_nat (by rw [List.getElem?_map, List.getElem?_eq_getElem hj]; rfl)⟩
/-! ### what kind a value is of -/
section
variable {K : PySem.W.Frag} {H : Hp} {Q : VK} {x : V}
theorem w_isN (q : Q (.bl (decide (x = .non))) H) : rIsN x .non H Q := ⟨rfl, q⟩
theorem w_notN (q : Q (.bl (!decide (x = .non))) H) : rNotN x .non H Q := ⟨rfl, q⟩
theorem c_isi {t T : String} {b : Bool} (ty : TyX K H x (.type t)) (h : kitB t T = some b) (q : Q (.bl b) H) : CB (rIsi K) [x, .ty T] H Q := ⟨x, .ty T, .type t, .type T, b, rfl, .ty T, ty, kit_ty h, q⟩
theorem ty_non : TyX K H .non (.type "NoneType") := .base .non
theorem ty_bl {b : Bool} : TyX K H (.bl b) (.type "bool") := .base (.bl b)
theorem ty_int {i : Int} : TyX K H (.int i) (.type "int") := .base (.int i)
theorem ty_str {z : Str} : TyX K H (.str z) (.type "str") := .base (.str z)
theorem ty_L {a : Addr} {xs : List V} (h : SqL K H a xs) : TyX K H (.ref a) (.type "list") := by
  rcases h with (h | ⟨o, h⟩) | ⟨o, its, n, h1, h2, _⟩
  · exact .base (.lst h)
  · exact .base (.frz h)
  · exact .kList h1 h2
theorem ty_T {a : Addr} {xs : List V} (h : SqT K H a xs) : TyX K H (.ref a) (.type "tuple") := by
  rcases h with (h | ⟨o, h⟩) | ⟨o, its, n, h1, h2, _⟩
  · exact .base (.tup h)
  · exact .fTuple h
  · exact .kTuple h1 h2
theorem k_nn : kitB "NoneType" "bool" = some false := by decide +kernel
theorem k_bb : kitB "bool" "bool" = some true := by decide +kernel
theorem k_bi : kitB "bool" "int" = some true := by decide +kernel
theorem k_ib : kitB "int" "bool" = some false := by decide +kernel
theorem k_ii : kitB "int" "int" = some true := by decide +kernel
theorem k_is : kitB "int" "str" = some false := by decide +kernel
theorem k_il : kitB "int" "list" = some false := by decide +kernel
theorem k_it : kitB "int" "tuple" = some false := by decide +kernel
theorem k_bs : kitB "bool" "str" = some false := by decide +kernel
theorem k_bl : kitB "bool" "list" = some false := by decide +kernel
theorem k_bt : kitB "bool" "tuple" = some false := by decide +kernel
theorem k_sb : kitB "str" "bool" = some false := by decide +kernel
theorem k_si : kitB "str" "int" = some false := by decide +kernel
theorem k_ss : kitB "str" "str" = some true := by decide +kernel
theorem k_sl : kitB "str" "list" = some false := by decide +kernel
theorem k_st : kitB "str" "tuple" = some false := by decide +kernel
theorem k_lb : kitB "list" "bool" = some false := by decide +kernel
theorem k_li : kitB "list" "int" = some false := by decide +kernel
theorem k_ls : kitB "list" "str" = some false := by decide +kernel
theorem k_ll : kitB "list" "list" = some true := by decide +kernel
theorem k_lt : kitB "list" "tuple" = some false := by decide +kernel
theorem k_tb : kitB "tuple" "bool" = some false := by decide +kernel
theorem k_ti : kitB "tuple" "int" = some false := by decide +kernel
theorem k_ts : kitB "tuple" "str" = some false := by decide +kernel
theorem k_tl : kitB "tuple" "list" = some false := by decide +kernel
theorem k_tt : kitB "tuple" "tuple" = some true := by decide +kernel
theorem k_ni : kitB "NoneType" "int" = some false := by decide +kernel
theorem k_ns : kitB "NoneType" "str" = some false := by decide +kernel
theorem k_nl : kitB "NoneType" "list" = some false := by decide +kernel
theorem k_nt : kitB "NoneType" "tuple" = some false := by decide +kernel
end
/-! ### data -/
/-- what is no list and no tuple -/
inductive Sc : V → PyData → Prop where
  | non : Sc .non .none
  | bl (b : Bool) : Sc (.bl b) (.bool b)
  | int (i : Int) : Sc (.int i) (.int i)
  | str (x : Str) : Sc (.str x) (.str x)
/-- v is the datum d, lists and tuples nested at most n deep, none of them in S -/
def Dn (K : PySem.W.Frag) (S : List Addr) (H : Hp) : Nat → V → PyData → Prop
  | 0, v, d => Sc v d
  | n + 1, v, d => Sc v d ∨ (∃ a xs ds, v = .ref a ∧ d = .list ds ∧ a ∉ S ∧ SqL K H a xs ∧ xs.length ≤ 100000 ∧ Paired (Dn K S H n) xs ds) ∨
      (∃ a xs ds, v = .ref a ∧ d = .tuple ds ∧ a ∉ S ∧ SqT K H a xs ∧ xs.length ≤ 100000 ∧ Paired (Dn K S H n) xs ds)
section
variable {K : PySem.W.Frag} {S S' : List Addr} {H H' : Hp}
theorem Dn.sc {v : V} {d : PyData} (h : Sc v d) : ∀ {n : Nat}, Dn K S H n v d
  | 0 => h
  | _ + 1 => .inl h
theorem Dn.upt (u : Upt S' H H') (hs : ∀ a ∈ S', a ∈ S) : ∀ {n : Nat} {v : V} {d : PyData}, Dn K S H n v d → Dn K S H' n v d
  | 0, _, _, h => h
  | n + 1, v, d, h => by
    rcases h with h | ⟨a, xs, ds, e1, e2, ha, hq, hl, p⟩ | ⟨a, xs, ds, e1, e2, ha, hq, hl, p⟩
    · exact .inl h
    · exact .inr (.inl ⟨a, xs, ds, e1, e2, ha, u.seqL (fun z => ha (hs a z)) hq, hl, Paired.mapP p fun x y q => Dn.upt u hs q⟩)
    · exact .inr (.inr ⟨a, xs, ds, e1, e2, ha, u.seqT (fun z => ha (hs a z)) hq, hl, Paired.mapP p fun x y q => Dn.upt u hs q⟩)
theorem Dn.weak (hs : ∀ a ∈ S', a ∈ S) : ∀ {n : Nat} {v : V} {d : PyData}, Dn K S H n v d → Dn K S' H n v d
  | 0, _, _, h => h
  | n + 1, v, d, h => by
    rcases h with h | ⟨a, xs, ds, e1, e2, ha, hq, hl, p⟩ | ⟨a, xs, ds, e1, e2, ha, hq, hl, p⟩
    · exact .inl h
    · exact .inr (.inl ⟨a, xs, ds, e1, e2, fun z => ha (hs a z), hq, hl, Paired.mapP p fun x y q => Dn.weak hs q⟩)
    · exact .inr (.inr ⟨a, xs, ds, e1, e2, fun z => ha (hs a z), hq, hl, Paired.mapP p fun x y q => Dn.weak hs q⟩)
theorem Dn.up : ∀ {n m : Nat} {v : V} {d : PyData}, n ≤ m → Dn K S H n v d → Dn K S H m v d
  | 0, 0, _, _, _, h => h
  | 0, _ + 1, _, _, _, h => .inl h
  | n + 1, 0, _, _, l, _ => absurd l (by omega)
  | n + 1, m + 1, v, d, l, h => by
    rcases h with h | ⟨a, xs, ds, e1, e2, ha, hq, hl, p⟩ | ⟨a, xs, ds, e1, e2, ha, hq, hl, p⟩
    · exact .inl h
    · exact .inr (.inl ⟨a, xs, ds, e1, e2, ha, hq, hl, Paired.mapP p fun x y q => Dn.up (by omega) q⟩)
    · exact .inr (.inr ⟨a, xs, ds, e1, e2, ha, hq, hl, Paired.mapP p fun x y q => Dn.up (by omega) q⟩)
theorem Dn.tup {n : Nat} {a : Addr} {xs : List V} {ds : List PyData} (h : SqT K H a xs) (ha : a ∉ S) (hl : xs.length ≤ 100000) (p : Paired (Dn K S H n) xs ds) : Dn K S H (n + 1) (.ref a) (.tuple ds) := .inr (.inr ⟨a, xs, ds, rfl, rfl, ha, h, hl, p⟩)
theorem Dn.lst {n : Nat} {a : Addr} {xs : List V} {ds : List PyData} (h : SqL K H a xs) (ha : a ∉ S) (hl : xs.length ≤ 100000) (p : Paired (Dn K S H n) xs ds) : Dn K S H (n + 1) (.ref a) (.list ds) := .inr (.inl ⟨a, xs, ds, rfl, rfl, ha, h, hl, p⟩)
theorem Dn.int {n : Nat} {i : Int} : Dn K S H n (.int i) (.int i) := .sc (.int i)
theorem Dn.str {n : Nat} {z : Str} : Dn K S H n (.str z) (.str z) := .sc (.str z)
theorem Dn.non {n : Nat} : Dn K S H n .non .none := .sc .non
theorem Dn.bl {n : Nat} {b : Bool} : Dn K S H n (.bl b) (.bool b) := .sc (.bl b)
theorem Dn.ints {n : Nat} : ∀ {ns : List Int}, Paired (Dn K S H n) (ns.map V.int) (ns.map PyData.int)
  | [] => .nil
  | _ :: _ => .cons Dn.int Dn.ints
end
theorem paired_at {α β : Type} {F : α → β → Prop} : ∀ {xs : List α} {ys : List β} {i : Nat} {x : α}, Paired F xs ys → xs[i]? = some x → ∃ y, ys[i]? = some y ∧ F x y
  | _, _, _, _, .nil, e => by simp at e
  | _, _, 0, _, .cons r _, e => by simp at e; subst e; exact ⟨_, rfl, r⟩
  | _, _, i + 1, x, .cons _ t, e => by
    obtain ⟨u, h1, h2⟩ := paired_at (i := i) (x := x) t (by simpa using e)
    exact ⟨u, by simpa using h1, h2⟩
/-! ### loops -/
section
variable {K : PySem.W.Frag} {σ : L2.St} {H : Hp} {Q : VK} {tl : TE} {ta : TA} {tb : TS} {D : Ends} {g : TG}
/-- the loop's own part of a for over J -/
def KFor (J : It) (g : TG) (tb : TS) (D : Ends) (σ : L2.St) (H : Hp) : Prop := ∃ W : Nat → Nat → L2.St → Hp → Prop, (∃ m, W 0 m σ H) ∧ ∀ i m σ H, W i m σ H →
  (J.stop i H ∧ D.nx σ H) ∨ (J.go i H ∧ ∃ N : L2.St → Hp → Prop, (∀ σ' H', N σ' H' → ∃ m', m' < m ∧ W (i + 1) m' σ' H') ∧ ∀ x H', J.yld i H x H' → g x σ H' fun σ2 H2 => tb { D with nx := N, ct := N, bk := D.nx } σ2 H2)
def KForL (K : PySem.W.Frag) (g : TG) (tb : TS) (D : Ends) (σ : L2.St) (x : V) (H : Hp) : Prop := ∃ a, x = .ref a ∧ (∃ xs, SqL K H a xs) ∧ KFor (Itl K a) g tb D σ H
def KForT (K : PySem.W.Frag) (g : TG) (tb : TS) (D : Ends) (σ : L2.St) (x : V) (H : Hp) : Prop := ∃ a, x = .ref a ∧ (∃ xs, SqT K H a xs) ∧ KFor (Itt K a) g tb D σ H
def KForS (g : TG) (tb : TS) (D : Ends) (σ : L2.St) (v : V) (H : Hp) : Prop := ∃ x, v = .str x ∧ KFor (Its x) g tb D σ H
def KForR (g : TG) (tb : TS) (D : Ends) (σ : L2.St) (vs : List V) (H : Hp) : Prop := ∃ j : Int, vs = [.int j] ∧ -(2 ^ 62) ≤ j ∧ j < 2 ^ 62 ∧ KFor (Itr 0 j.toNat) g tb D σ H
theorem w_forL (h : tl σ H fun x H1 => KForL K g tb D σ x H1) : tFor (iList K tl) g tb D σ H := h
theorem w_forT (h : tl σ H fun x H1 => KForT K g tb D σ x H1) : tFor (iTup K tl) g tb D σ H := h
theorem w_forS (h : tl σ H fun x H1 => KForS g tb D σ x H1) : tFor (iStr tl) g tb D σ H := h
theorem w_forR (h : ta σ H fun vs H1 => KForR g tb D σ vs H1) : tFor (iRng1 ta) g tb D σ H := h
theorem l_list {a : Addr} {xs : List V} {n : Nat} (h : SqL K H a xs) (Pv : Nat → L2.St → Hp → Prop) (h0 : Pv 0 σ H) (hl : ∀ i σ H, i ≤ xs.length → Pv i σ H → SqL K H a xs)
    (hs : ∀ i y σ H, xs[i]? = some y → Pv i σ H → tb { D with nx := Pv (i + 1), ct := Pv (i + 1), bk := D.nx } (σ.set n (some y)) H) (hd : ∀ σ H, Pv xs.length σ H → D.nx σ H) : KForL K (gName n) tb D σ (.ref a) H :=
  ⟨a, rfl, ⟨xs, h⟩, for_list (K := K) (a := a) (xs := xs) Pv h0 hl hs hd⟩
theorem l_tup {a : Addr} {xs : List V} {n : Nat} (h : SqT K H a xs) (Pv : Nat → L2.St → Hp → Prop) (h0 : Pv 0 σ H) (hl : ∀ i σ H, i ≤ xs.length → Pv i σ H → SqT K H a xs)
    (hs : ∀ i y σ H, xs[i]? = some y → Pv i σ H → tb { D with nx := Pv (i + 1), ct := Pv (i + 1), bk := D.nx } (σ.set n (some y)) H) (hd : ∀ σ H, Pv xs.length σ H → D.nx σ H) : KForT K (gName n) tb D σ (.ref a) H :=
  ⟨a, rfl, ⟨xs, h⟩, for_tup (K := K) (a := a) (xs := xs) Pv h0 hl hs hd⟩
theorem l_range {j : Int} {n m : Nat} (hj : j = (m : Int)) (hb : m ≤ 1000000) (Pv : Nat → L2.St → Hp → Prop) (h0 : Pv 0 σ H)
    (hs : ∀ (i : Nat) σ H, i < m → Pv i σ H → tb { D with nx := Pv (i + 1), ct := Pv (i + 1), bk := D.nx } (σ.set n (some (.int (i : Int)))) H) (hd : ∀ σ H, Pv m σ H → D.nx σ H) : KForR (gName n) tb D σ [.int j] H := by
  subst hj
  refine ⟨(m : Int), rfl, by omega, by omega, ?_⟩
  have e : ((m : Int)).toNat = m := by simp
  rw [e]
  refine for_range (lo := 0) (n := m) Pv h0 (fun i σ H hi p => ?_) hd
  have z : (0 : Int) + (i : Int) = (i : Int) := Int.zero_add _
  show tb _ (σ.set n (some (.int ((0 : Int) + (i : Int))))) H
  rw [z]
  exact hs i σ H hi p
theorem l_str {z : Str} {n : Nat} (Pv : Nat → L2.St → Hp → Prop) (h0 : Pv 0 σ H)
    (hs : ∀ (i c : Nat) σ H, z.cps.toList[i]? = some c → Pv i σ H → tb { D with nx := Pv (i + 1), ct := Pv (i + 1), bk := D.nx } (σ.set n (some (.str ⟨#[c]⟩))) H) (hd : ∀ σ H, Pv z.cps.toList.length σ H → D.nx σ H) : KForS (gName n) tb D σ (.str z) H := by
  have el : z.cps.toList.length = z.cps.size := by simp
  refine ⟨z, rfl, fun i m σ H => m = z.cps.size - i ∧ i ≤ z.cps.size ∧ Pv i σ H, ⟨z.cps.size, by simp, Nat.zero_le _, h0⟩, ?_⟩
  rintro i m σ H ⟨rfl, hi, p⟩
  by_cases hlt : i < z.cps.size
  · refine .inr ⟨hlt, Pv (i + 1), fun σ' H' p' => ⟨z.cps.size - (i + 1), by omega, rfl, hlt, p'⟩, fun x H' y => ?_⟩
    obtain ⟨e, c, hc, ev⟩ := y
    subst e
    subst ev
    exact hs i c σ H' (by rw [Array.getElem?_toList]; exact hc) p
  · have e2 : i = z.cps.size := by omega
    subst e2
    exact .inl ⟨Nat.le_refl _, hd _ _ (by rw [el]; exact p)⟩
/-! comprehensions -/
def KLc (J : It) (g : TG) (tt : TT) (te : TE) (vs : List Nat) (σ : L2.St) (H1 : Hp) (Q : VK) : Prop := ∀ D, H1 D = none → ∃ W : Nat → Nat → Hp → Prop, (∃ m, W 0 m (upd H1 D (.lst []))) ∧ ∀ i m H, W i m H →
  (J.stop i H ∧ Q (.ref D) H) ∨ (J.go i H ∧ ∃ Nx : Hp → Prop, (∀ H', Nx H' → ∃ m', m' < m ∧ W (i + 1) m' H') ∧ ∀ x H', J.yld i H x H' → g x (wipe σ vs) H' fun σ2 H2 => wipe σ2 vs = wipe σ vs ∧ tt σ2 H2 fun b H3 =>
    if b = true then te σ2 H3 fun y H4 => ∃ acc, H4 D = some (.lst acc) ∧ acc.length < sizeLine ∧ Nx (upd H4 D (.lst (acc ++ [y]))) else Nx H3)
def KLcR (g : TG) (tt : TT) (te : TE) (us : List Nat) (σ : L2.St) (Q : VK) (vs : List V) (H : Hp) : Prop := ∃ j : Int, vs = [.int j] ∧ -(2 ^ 62) ≤ j ∧ j < 2 ^ 62 ∧ KLc (Itr 0 j.toNat) g tt te us σ H Q
def KLcL (K : PySem.W.Frag) (g : TG) (tt : TT) (te : TE) (us : List Nat) (σ : L2.St) (Q : VK) (x : V) (H : Hp) : Prop := ∃ a, x = .ref a ∧ (∃ xs, SqL K H a xs) ∧ KLc (Itl K a) g tt te us σ H Q
def KLcT (K : PySem.W.Frag) (g : TG) (tt : TT) (te : TE) (us : List Nat) (σ : L2.St) (Q : VK) (x : V) (H : Hp) : Prop := ∃ a, x = .ref a ∧ (∃ xs, SqT K H a xs) ∧ KLc (Itt K a) g tt te us σ H Q
variable {tt : TT} {te : TE} {us : List Nat}
theorem w_lcR (h : ta σ H fun vs H1 => KLcR g tt te us σ Q vs H1) : tLc (iRng1 ta) g tt te us σ H Q := h
theorem w_lcL (h : tl σ H fun x H1 => KLcL K g tt te us σ Q x H1) : tLc (iList K tl) g tt te us σ H Q := h
theorem w_lcT (h : tl σ H fun x H1 => KLcT K g tt te us σ Q x H1) : tLc (iTup K tl) g tt te us σ H Q := h
/-- what is made stands behind the list at D -/
def KApp (D : Addr) (P : Hp → Prop) (y : V) (H : Hp) : Prop := ∃ acc, H D = some (.lst acc) ∧ acc.length < sizeLine ∧ P (upd H D (.lst (acc ++ [y])))
theorem w_kapp {D : Addr} {P : Hp → Prop} {y : V} {acc : List V} (h : H D = some (.lst acc)) (hz : acc.length < sizeLine) (q : ∀ H5, Chg H H5 D (.lst (acc ++ [y])) → P H5) : KApp D P y H := ⟨acc, h, hz, q _ Chg.of⟩
/-- [e for k in range(m)] -/
theorem lc_R {j : Int} {n m : Nat} (hj : j = (m : Int)) (hb : m ≤ 1000000) (Pv : Nat → Addr → Hp → Prop) (h0 : ∀ D H1, New H H1 D (.lst []) → Pv 0 D H1)
    (hs : ∀ (i : Nat) D H, i < m → Pv i D H → te ((σ.set n none).set n (some (.int (i : Int)))) H (KApp D (Pv (i + 1) D)))
    (hd : ∀ D H, Pv m D H → Q (.ref D) H) : KLcR (gName n) tYes te [n] σ Q [.int j] H := by
  subst hj
  refine ⟨(m : Int), rfl, by omega, by omega, fun D hD => ?_⟩
  have e : ((m : Int)).toNat = m := by simp
  rw [e]
  refine lc_range (lo := 0) (n := m) (fun i H => Pv i D H) (h0 D _ (New.of hD)) (fun i H hi p => ?_) fun H p => hd D H p
  have z : (0 : Int) + (i : Int) = (i : Int) := Int.zero_add _
  refine ⟨?_, ?_⟩
  · show List.set (List.set (List.set σ n none) n (some (V.int ((0 : Int) + (i : Int))))) n none = List.set σ n none
    simp
  · show te (List.set (List.set σ n none) n (some (V.int ((0 : Int) + (i : Int))))) H (KApp D (Pv (i + 1) D))
    rw [z]
    exact hs i D H hi p
/-- [e for x in xs] -/
theorem lc_L {a : Addr} {xs : List V} {n : Nat} (h : SqL K H a xs) (Pv : Nat → Addr → Hp → Prop) (h0 : ∀ D H1, New H H1 D (.lst []) → Pv 0 D H1) (hl : ∀ i D H, i ≤ xs.length → Pv i D H → SqL K H a xs)
    (hs : ∀ (i : Nat) x D H, xs[i]? = some x → Pv i D H → te ((σ.set n none).set n (some x)) H (KApp D (Pv (i + 1) D)))
    (hd : ∀ D H, Pv xs.length D H → Q (.ref D) H) : KLcL K (gName n) tYes te [n] σ Q (.ref a) H := by
  refine ⟨a, rfl, ⟨xs, h⟩, fun D hD => ?_⟩
  refine lc_list (K := K) (a := a) (xs := xs) (fun i H => Pv i D H) (h0 D _ (New.of hD)) (fun i H hi p => hl i D H hi p) (fun i x H hi p => ?_) fun H p => hd D H p
  refine ⟨?_, ?_⟩
  · show List.set (List.set (List.set σ n none) n (some x)) n none = List.set σ n none
    simp
  · show te (List.set (List.set σ n none) n (some x)) H (KApp D (Pv (i + 1) D))
    exact hs i x D H hi p
theorem lc_T {a : Addr} {xs : List V} {n : Nat} (h : SqT K H a xs) (Pv : Nat → Addr → Hp → Prop) (h0 : ∀ D H1, New H H1 D (.lst []) → Pv 0 D H1) (hl : ∀ i D H, i ≤ xs.length → Pv i D H → SqT K H a xs)
    (hs : ∀ (i : Nat) x D H, xs[i]? = some x → Pv i D H → te ((σ.set n none).set n (some x)) H (KApp D (Pv (i + 1) D)))
    (hd : ∀ D H, Pv xs.length D H → Q (.ref D) H) : KLcT K (gName n) tYes te [n] σ Q (.ref a) H := by
  refine ⟨a, rfl, ⟨xs, h⟩, fun D hD => ?_⟩
  refine lc_tup (K := K) (a := a) (xs := xs) (fun i H => Pv i D H) (h0 D _ (New.of hD)) (fun i H hi p => hl i D H hi p) (fun i x H hi p => ?_) fun H p => hd D H p
  refine ⟨?_, ?_⟩
  · show List.set (List.set (List.set σ n none) n (some x)) n none = List.set σ n none
    simp
  · show te (List.set (List.set σ n none) n (some x)) H (KApp D (Pv (i + 1) D))
    exact hs i x D H hi p
end
/-! ### built-ins, by names -/
section
variable {K : PySem.W.Frag} {H : Hp} {Q : VK} {i j : Int} {v : V}
def rInt1 : List V → Hp → VK → Prop := fun xs H Q => (∃ i, xs = [.int i] ∧ Q (.int i) H) ∨ ∃ k, xs = [.bl k] ∧ Q (.int (if k then 1 else 0)) H
def rAbs : List V → Hp → VK → Prop := fun xs H Q => ∃ i, xs = [.int i] ∧ Q (.int (if i < 0 then -i else i)) H
def rMax2 : List V → Hp → VK → Prop := fun xs H Q => ∃ i j, xs = [.int i, .int j] ∧ Q (.int (if j > i then j else i)) H
def rMin2 : List V → Hp → VK → Prop := fun xs H Q => ∃ i j, xs = [.int i, .int j] ∧ Q (.int (if j < i then j else i)) H
def rListOf (K : PySem.W.Frag) : List V → Hp → VK → Prop := fun xs H Q => ∃ p ys, xs = [.ref p] ∧ (SqL K H p ys ∨ SqT K H p ys) ∧ ∀ l, H l = none → Q (.ref l) (upd H l (.lst ys))
def rTupOf (K : PySem.W.Frag) : List V → Hp → VK → Prop := fun xs H Q => ∃ p ys, xs = [.ref p] ∧ ((SqL K H p ys ∧ ∀ l, H l = none → Q (.ref l) (upd H l (.tup ys))) ∨ (SqT K H p ys ∧ Q (.ref p) H))
def rLenS (K : PySem.W.Frag) : List V → Hp → VK → Prop := fun xs H Q => ∃ p ys, xs = [.ref p] ∧ (SqL K H p ys ∨ SqT K H p ys) ∧ Q (.int ys.length) H
def rLenT : List V → Hp → VK → Prop := fun xs H Q => ∃ z, xs = [.str z] ∧ z.length ≤ sizeLine ∧ Q (.int z.length) H
variable {X : Cx}
theorem b_int : CallR X (.type "int") rInt1 := call_int1
theorem b_abs : CallR X (.builtin "abs") rAbs := call_abs
theorem b_max (hc : X.calm = true) : CallR X (.builtin "max") rMax2 := call_max2 hc
theorem b_min (hc : X.calm = true) : CallR X (.builtin "min") rMin2 := call_min2 hc
theorem b_list : CallR X (.type "list") (rListOf X.K) := call_list_of
theorem b_tuple : CallR X (.type "tuple") (rTupOf X.K) := call_tuple_of
theorem b_len : CallR X (.builtin "len") (rLenS X.K) := call_len_seq
theorem b_lenT : CallR X (.builtin "len") rLenT := call_len_str
theorem c_int (q : Q (.int i) H) : CB rInt1 [.int i] H Q := Or.inl ⟨i, rfl, q⟩
theorem c_intB {b : Bool} (q : Q (.int (if b then 1 else 0)) H) : CB rInt1 [.bl b] H Q := Or.inr ⟨b, rfl, q⟩
theorem c_abs (q : Q (.int (if i < 0 then -i else i)) H) : CB rAbs [.int i] H Q := ⟨i, rfl, q⟩
theorem c_max (q : Q (.int (if j > i then j else i)) H) : CB rMax2 [.int i, .int j] H Q := ⟨i, j, rfl, q⟩
theorem c_min (q : Q (.int (if j < i then j else i)) H) : CB rMin2 [.int i, .int j] H Q := ⟨i, j, rfl, q⟩
theorem c_listL {p : Addr} {ys : List V} (h : SqL K H p ys) (q : ∀ l H2, New H H2 l (.lst ys) → Q (.ref l) H2) : CB (rListOf K) [.ref p] H Q := ⟨p, ys, rfl, .inl h, fun l hl => q l _ (New.of hl)⟩
theorem c_listT {p : Addr} {ys : List V} (h : SqT K H p ys) (q : ∀ l H2, New H H2 l (.lst ys) → Q (.ref l) H2) : CB (rListOf K) [.ref p] H Q := ⟨p, ys, rfl, .inr h, fun l hl => q l _ (New.of hl)⟩
theorem c_tupL {p : Addr} {ys : List V} (h : SqL K H p ys) (q : ∀ l H2, New H H2 l (.tup ys) → Q (.ref l) H2) : CB (rTupOf K) [.ref p] H Q := ⟨p, ys, rfl, .inl ⟨h, fun l hl => q l _ (New.of hl)⟩⟩
theorem c_lenL {p : Addr} {ys : List V} (h : SqL K H p ys) (q : Q (.int (ys.length : Int)) H) : CB (rLenS K) [.ref p] H Q := ⟨p, ys, rfl, .inl h, q⟩
theorem c_lenT {p : Addr} {ys : List V} (h : SqT K H p ys) (q : Q (.int (ys.length : Int)) H) : CB (rLenS K) [.ref p] H Q := ⟨p, ys, rfl, .inr h, q⟩
theorem c_lenA {p : Addr} {ys : List V} (h : SqL K H p ys ∨ SqT K H p ys) (q : Q (.int (ys.length : Int)) H) : CB (rLenS K) [.ref p] H Q := ⟨p, ys, rfl, h, q⟩
theorem c_lenS {z : Str} (h : z.length ≤ sizeLine) (q : Q (.int (z.length : Int)) H) : CB rLenT [.str z] H Q := ⟨z, rfl, h, q⟩
end
end Wk
set_option Elab.async false
set_option linter.all false
set_option maxRecDepth 100000
set_option maxHeartbeats 4000000
/-! Wk: small defs without effects, walked in any surroundings (for what a generator expression calls). -/
namespace Wk
open PySem PySem.Spec PyProof.Rows L2
abbrev Pins := List (Addr × Obj)
/-- the frame's names hold vals, what the top left stands, and the pinned objects too -/
structure RS (base : Heap) (env : Env) (vals : List (Str × V)) (G : Pins) (m : Str → Option Value) (s : Shared) : Prop where
  hb : ∀ b o, base.get? b = some o → s.heap.get? b = some o
  hn : s.heap.Ns env.locals m
  hm : ∀ p ∈ vals, ∃ u, m p.1 = some u ∧ RelV p.2 u
  hG : ∀ q ∈ G, s.heap.get? q.1 = some q.2
/-- the expression e gives v and keeps all that stands -/
def RE (prog : Program) (w : World) (base : Heap) (D : Nat) (env : Env) (vals : List (Str × V)) (G : Pins) (e : Expr) (v : V) : Prop :=
  ∀ (A : Around) (E : Value → Shared → Prop) (s : Shared) (m : Str → Option Value), A.handled = none → A.depth ≤ D → RS base env vals G m s → wpAny (model prog w) A (eval e env) (fun y s' => RelV v y ∧ Keeps s s') E s
/-- arguments -/
def RA (prog : Program) (w : World) (base : Heap) (D : Nat) (env : Env) (vals : List (Str × V)) (G : Pins) (es : List Expr) (vs : List V) : Prop :=
  ∀ (pos : Pos) (A : Around) (E : Value → Shared → Prop) (s : Shared) (m : Str → Option Value), A.handled = none → A.depth ≤ D → RS base env vals G m s → wpAny (model prog w) A (spliced (backTo pos (starEach es env))) (fun us s' => Vals vs us ∧ Keeps s s') E s
/-- the def at f hands back v for vs -/
def RF (prog : Program) (w : World) (base : Heap) (D : Nat) (f : Addr) (vs : List V) (G : Pins) (v : V) : Prop :=
  ∀ (A : Around) (s : Shared) (us : List Value), A.handled = none → A.depth ≤ D → (∀ b o, base.get? b = some o → s.heap.get? b = some o) → Vals vs us → (∀ q ∈ G, s.heap.get? q.1 = some q.2) →
    codeAny (model prog w) A (.call (.ref f) ⟨us, []⟩) (fun r s' => ∃ u, r = .ok (.ret u) ∧ RelV v u ∧ Keeps s s') s
/-- what is known of a frame -/
structure RC (scope : Scope) (env : Env) : Prop where
  kind : env.scope.kind = .function
  sc : env.scope = scope
  glob : env.globals = mainGlobals
  blt : env.builtins = builtinsNs
theorem keeps_trans {s s1 s2 : Shared} (a : Keeps s s1) (b : Keeps s1 s2) : Keeps s s2 := by
  obtain ⟨h1, k1, rfl, e1⟩ := a
  obtain ⟨h2, k2, rfl, e2⟩ := b
  exact ⟨h2, k2, rfl, fun b o q => e2 b o (e1 b o q)⟩
theorem keeps_tok (s : Shared) (k : Nat) : Keeps s { s with toks := k } := ⟨s.heap, k, rfl, fun _ _ e => e⟩
theorem keeps_self (s : Shared) : Keeps s s := keeps_tok s s.toks
theorem keeps_get {s s' : Shared} (a : Keeps s s') : ∀ b o, s.heap.get? b = some o → s'.heap.get? b = some o := by
  obtain ⟨h1, k1, rfl, e1⟩ := a
  exact e1
/-- the kind of a value, with what is pinned -/
inductive KV (G : Pins) : V → String → Prop
  | non : KV G .non "NoneType"
  | bl {b} : KV G (.bl b) "bool"
  | int {i} : KV G (.int i) "int"
  | str {z} : KV G (.str z) "str"
  | lst {a o} : (a, o) ∈ G → o.cls = .type "list" → KV G (.ref a) "list"
  | tup {a o} : (a, o) ∈ G → o.cls = .type "tuple" → KV G (.ref a) "tuple"
  | dct {a o} : (a, o) ∈ G → o.cls = .type "dict" → KV G (.ref a) "dict"
section
variable {prog : Program} {w : World} {K : PySem.W.Frag} {mg : Str → Option Value} {base : Heap} {D : Nat} {env : Env} {scope : Scope} {vals : List (Str × V)} {G : Pins} {e e1 e2 e3 : Expr} {es : List Expr} {v : V} {vs : List V} {p p1 p2 pos : Pos}
theorem RS.on {m : Str → Option Value} {s s' : Shared} (r : RS base env vals G m s) (k : Keeps s s') : RS base env vals G m s' :=
  ⟨fun b o q => keeps_get k b o (r.hb b o q), r.hn.keeps (keeps_get k), r.hm, fun q hq => keeps_get k _ _ (r.hG q hq)⟩
theorem re_name {x : Str} (c : RC scope env) (hl : scope.names.lookup x = some .local) (hv : (x, v) ∈ vals) (hd : (x == ("__debug__" : Str)) = false := by decide) : RE prog w base D env vals G (.Name x p) v := by
  intro A E s m hA hD r
  obtain ⟨u, hu, q⟩ := r.hm _ hv
  exact wpAny_Name (wpAny_loadName_local c.kind (show env.scope.names.lookup x = some .local by rw [c.sc]; exact hl) r.hn hu ⟨q, keeps_self _⟩) hd
theorem re_int {i : Int} {j : Nat} : RE prog w base D env vals G (.Constant (.int i) j p) (.int i) := fun A E s m hA hD r => wpAny_Constant_int ⟨⟨_, rfl⟩, keeps_tok _ _⟩
theorem re_str {z : Str} {j : Nat} : RE prog w base D env vals G (.Constant (.str z) j p) (.str z) := fun A E s m hA hD r => Calls.Constant_str ⟨⟨_, rfl⟩, keeps_tok _ _⟩
theorem ld_g {x : Str} {u : Value} {A : Around} {E : Value → Shared → Prop} {s : Shared} {m : Str → Option Value} {Q : Value → Shared → Prop} (M : Mod K mg base) (c : RC scope env) (r : RS base env vals G m s) (hg : scope.names.lookup x = some .globalImplicit) (hm : mg x = some u) (q : Q u s) (hd : (x == ("__debug__" : Str)) = false := by decide) :
    wpAny (model prog w) A (eval (.Name x p) env) Q E s :=
  Calls.Name_function_global c.kind (show env.scope.names.lookup x = some .globalImplicit by rw [c.sc]; exact hg) (Calls.loadGlobal_global (by rw [c.glob]; exact M.glob.keeps r.hb) hm q) hd
theorem ld_b {x : Str} {u : Value} {A : Around} {E : Value → Shared → Prop} {s : Shared} {m : Str → Option Value} {Q : Value → Shared → Prop} (M : Mod K mg base) (c : RC scope env) (r : RS base env vals G m s) (hg : scope.names.lookup x = some .globalImplicit) (hm : mg x = none) (hv : bootBuiltins x = some u) (q : Q u s)
    (hn0 : x ≠ "__name__" := by decide) (hd : (x == ("__debug__" : Str)) = false := by decide) : wpAny (model prog w) A (eval (.Name x p) env) Q E s := by
  obtain ⟨mb, h1, h2⟩ := M.blt
  exact Calls.Name_function_global c.kind (show env.scope.names.lookup x = some .globalImplicit by rw [c.sc]; exact hg) (Calls.loadGlobal_builtin (by rw [c.glob]; exact M.glob.keeps r.hb) hm (by rw [c.blt]; exact h1.keeps r.hb) ((h2 x hn0).trans hv) q) hd
theorem re_glob {x : Str} {u : Value} (M : Mod K mg base) (c : RC scope env) (hg : scope.names.lookup x = some .globalImplicit) (hm : mg x = some u) (q : RelV v u) (hd : (x == ("__debug__" : Str)) = false := by decide) : RE prog w base D env vals G (.Name x p) v :=
  fun A E s m hA hD r => ld_g M c r hg hm ⟨q, keeps_self _⟩ hd
theorem re_blt {x : Str} {u : Value} (M : Mod K mg base) (c : RC scope env) (hg : scope.names.lookup x = some .globalImplicit) (hm : mg x = none) (hv : bootBuiltins x = some u) (q : RelV v u) (hn0 : x ≠ "__name__" := by decide) (hd : (x == ("__debug__" : Str)) = false := by decide) : RE prog w base D env vals G (.Name x p) v :=
  fun A E s m hA hD r => ld_b M c r hg hm hv ⟨q, keeps_self _⟩ hn0 hd
/-- a - b of whole numbers -/
theorem re_sub {i j : Int} (h1 : RE prog w base D env vals G e1 (.int i)) (h2 : RE prog w base D env vals G e2 (.int j)) : RE prog w base D env vals G (.BinOp e1 .Sub e2 p) (.int (i - j)) := by
  intro A E s m hA hD r
  refine wpAny_BinOp (thn (h1 A E s m hA hD r) fun y s1 ⟨r1, k1⟩ => ?_)
  refine thn (h2 A E s1 m hA hD (r.on k1)) fun z s2 ⟨r2, k2⟩ => ?_
  obtain ⟨t, rfl⟩ := r1
  obtain ⟨t', rfl⟩ := r2
  exact sub_int ⟨⟨_, rfl⟩, keeps_trans (keeps_trans k1 k2) (keeps_tok _ _)⟩
/-- a and b, of truth values; a false one ends it -/
theorem re_andF {rest : List Expr} (h1 : RE prog w base D env vals G e1 (.bl false)) : RE prog w base D env vals G (.BoolOp .And (e1 :: e2 :: rest) p) (.bl false) := by
  intro A E s m hA hD r
  refine BoolOp_and (thn (h1 A E s m hA hD r) fun y s1 ⟨r1, k1⟩ => ?_)
  cases r1
  exact wpAny_truthy_bool ⟨rfl, k1⟩
theorem re_andT {b : Bool} (h1 : RE prog w base D env vals G e1 (.bl true)) (h2 : RE prog w base D env vals G e2 (.bl b)) : RE prog w base D env vals G (.BoolOp .And [e1, e2] p) (.bl b) := by
  intro A E s m hA hD r
  refine BoolOp_and (thn (h1 A E s m hA hD r) fun y s1 ⟨r1, k1⟩ => ?_)
  cases r1
  refine wpAny_truthy_bool ?_
  refine BoolOp_one (thn (h2 A E s1 m hA hD (r.on k1)) fun z s2 ⟨r2, k2⟩ => ⟨r2, keeps_trans k1 k2⟩)
theorem re_not {b : Bool} (h1 : RE prog w base D env vals G e1 (.bl b)) : RE prog w base D env vals G (.UnaryOp .Not e1 p) (.bl (!b)) := by
  intro A E s m hA hD r
  refine UnaryOp_ (thn (h1 A E s m hA hD r) fun y s1 ⟨r1, k1⟩ => ?_)
  cases r1
  exact not_of (wpAny_truthy_bool ⟨rfl, k1⟩)
/-- i <= x <= j -/
theorem re_chain {i x j : Int} (h1 : RE prog w base D env vals G e1 (.int i)) (h2 : RE prog w base D env vals G e2 (.int x)) (h3 : RE prog w base D env vals G e3 (.int j)) (hm : lastMarks [.LtE, .LtE] [e2, e3] = false := by with_unfolding_all rfl) :
    RE prog w base D env vals G (.Compare e1 [.LtE, .LtE] [e2, e3] p) (.bl (decide (i ≤ x ∧ x ≤ j))) := by
  intro A E s m hA hD r
  refine Compare_chain (thn (h1 A E s m hA hD r) fun y s1 ⟨r1, k1⟩ => chain_link (thn (h2 A E s1 m hA hD (r.on k1)) fun z s2 ⟨r2, k2⟩ => ?_)) hm
  obtain ⟨t, rfl⟩ := r1
  obtain ⟨t', rfl⟩ := r2
  refine PyProof.Rows.le_int (wpAny_truthy_bool ?_)
  by_cases hi : i ≤ x
  · rw [decide_eq_true hi]
    refine ite_tt (chain_last (thn (h3 A E s2 m hA hD ((r.on k1).on k2)) fun z3 s3 ⟨r3, k3⟩ => ?_))
    obtain ⟨t3, rfl⟩ := r3
    refine PyProof.Rows.le_int ⟨?_, keeps_trans (keeps_trans k1 k2) k3⟩
    show Value.bool _ = Value.bool _
    simp [hi]
  · rw [decide_eq_false hi]
    refine ite_ff ⟨?_, keeps_trans k1 k2⟩
    show Value.bool _ = Value.bool _
    simp [hi]
theorem ra_nil : RA prog w base D env vals G [] [] := fun _ _ _ _ _ _ _ _ => Calls.spliced_nil ⟨.nil, keeps_self _⟩
theorem ra_cons (h1 : RE prog w base D env vals G e v) (h2 : RA prog w base D env vals G es vs) (hs : starEach (e :: es) env = (false, eval e env) :: starEach es env := by rfl) : RA prog w base D env vals G (e :: es) (v :: vs) := by
  intro pos A E s m hA hD r
  rw [hs]
  show wpAny _ _ (spliced ((false, eval e env) :: backTo pos (starEach es env))) _ _ s
  refine Calls.spliced_cons (thn (h1 A E s m hA hD r) fun u s1 ⟨r1, k1⟩ => ?_)
  exact thn (h2 pos A E s1 m hA hD (r.on k1)) fun us s2 ⟨r2, k2⟩ => ⟨.cons r1 r2, keeps_trans k1 k2⟩
/-- f(e, ..), f an own def -/
theorem re_call {x : Str} {f : Addr} (M : Mod K mg base) (c : RC scope env) (hg : scope.names.lookup x = some .globalImplicit) (hm : mg x = some (.ref f)) (hk : PySem.W.keepIn K (.ref f) = true) (F : RF prog w base D f vs G v)
    (ha : RA prog w base D env vals G (e :: es) vs) (hdb : (x == ("__debug__" : Str)) = false := by decide) (he : starEach (e :: es) env = (false, eval e env) :: starEach es env := by rfl) (hpl : (backTo pos (starEach es env)).any (·.1) = false := by rfl) :
    RE prog w base D env vals G (.Call (.Name x p) (e :: es) [] pos) v := by
  intro A E s m hA hD r
  refine wpAny_Call_Name_kw (ld_g M c r hg hm ?_ hdb)
  refine PySem.W.callWith_K (h₀ := base) M.kin hk (thn (ha pos A E s m hA hD r) fun us s1 ⟨r1, k1⟩ => ⟨M.kin.keeps (r.on k1).hb, ?_⟩) he hpl
  refine wpAny_call (codeAny_mono (F A s1 us hA hD (r.on k1).hb r1 (r.on k1).hG) fun r' s' hq => ?_)
  obtain ⟨u, rfl, ru, k⟩ := hq
  exact ⟨ru, keeps_trans k1 k⟩
theorem kv_call {A : Around} {E : Value → Shared → Prop} {s : Shared} {u : Value} {Q : Value → Shared → Prop} {t T : String} {b : Bool} (X : K.In s.heap) (kv : KV G v t) (hG : ∀ q ∈ G, s.heap.get? q.1 = some q.2) (ru : RelV v u) (h : PySem.W.kitOne K (.type t) (.type T) = some b) (q : ∀ tk, Q (.bool b) { s with toks := tk }) :
    wpAny (model prog w) A (call (.builtin "isinstance") [u, .type T]) Q E s := by
  cases kv with
  | non => cases ru; exact PySem.W.kia_one PySem.W.kitx_none X True.intro h (fun z => nomatch z) q
  | bl => cases ru; exact PySem.W.kia_one PySem.W.kitx_bool X True.intro h (fun z => nomatch z) q
  | int => obtain ⟨t, rfl⟩ := ru; exact PySem.W.kia_one PySem.W.kitx_int X True.intro h (fun z => nomatch z) q
  | str => obtain ⟨t, rfl⟩ := ru; exact PySem.W.kia_one PySem.W.kitx_str X True.intro h (fun z => nomatch z) q
  | lst hm hc => cases (show u = Value.ref _ from ru); exact PySem.W.kia_one PySem.W.kitx_list X ⟨_, hG _ hm, hc⟩ h (fun z => nomatch z) q
  | tup hm hc => cases (show u = Value.ref _ from ru); exact PySem.W.kia_one PySem.W.kitx_tuple X ⟨_, hG _ hm, hc⟩ h (fun z => nomatch z) q
  | dct hm hc => cases (show u = Value.ref _ from ru); exact PySem.W.kia_one PySem.W.kitx_dict X ⟨_, hG _ hm, hc⟩ h (fun z => nomatch z) q
/-- isinstance(e, T) -/
theorem re_isi {T : String} {t : String} {b : Bool} (M : Mod K mg base) (c : RC scope env) (hg : scope.names.lookup ("isinstance" : Str) = some NameKind.globalImplicit) (hm : mg "isinstance" = none)
    (h1 : RE prog w base D env vals G e1 v) (h2 : RE prog w base D env vals G e2 (.ty T)) (kv : KV G v t) (h : PySem.W.kitOne K (.type t) (.type T) = some b)
    (he1 : starEach [e1, e2] env = (false, eval e1 env) :: starEach [e2] env := by rfl) (he2 : starEach [e2] env = (false, eval e2 env) :: starEach [] env := by rfl) (hpl : (backTo pos (starEach [e2] env)).any (·.1) = false := by rfl) :
    RE prog w base D env vals G (.Call (.Name "isinstance" p) [e1, e2] [] pos) (.bl b) := by
  intro A E s m hA hD r
  refine wpAny_Call_Name_kw (ld_b M c r hg hm (by rfl) ?_)
  refine PyProof.Rows.callWith_builtin1 ?_ he1 hpl
  refine thn (ra_cons h1 (ra_cons h2 ra_nil he2) he1 pos A E s m hA hD r) fun us s1 ⟨r1, k1⟩ => ?_
  cases r1 with
  | cons ra rr =>
    cases rr with
    | cons rb rn =>
      cases rn
      cases (show _ = Value.type T from rb)
      exact kv_call (M.kin.keeps (r.on k1).hb) kv (r.on k1).hG ra h fun tk => ⟨rfl, keeps_trans k1 (keeps_tok _ _)⟩
/-- a def whose suite is one return -/
theorem rf_of {f : Addr} {fd : FuncData} {x : Str} {params : Arguments} {rp : Pos} {N ps : List Str} (F : FunD K x x params [.Return (some e) rp] scope [] [] f fd) (M : Mod K mg base) (S : FnScope N ps scope) (hloc : ∀ y ∈ ps, scope.names.lookup y = some .local) (hnd : ps.Nodup)
    (hb : ∀ (kV doc pm : Value) (an : Option Addr) (cdv ct : Value) (us : List Value), us.length = ps.length → bindArgs (PySem.W.fnOf x x params [.Return (some e) rp] scope .none kV doc pm an cdv ct) ⟨us, []⟩ = pure (ps.zip us))
    (hl : vs.length = ps.length) (hD : D < recursionLimit) (body : ∀ env : Env, RC scope env → RE prog w base (D + 1) env (ps.zip vs) G e v) : RF prog w base D f vs G v := by
  intro A s us hA hAD hs r hG
  obtain ⟨oc, od, dV, kV, doc, pm, an, cdv, ct, osl, rfl, lk, hcd, hdv, _⟩ := F.ex
  have KX : K.In s.heap := M.kin.keeps hs
  have lim : s.heap.NoLimit := M.nolimit.keeps hs
  have hul : us.length = ps.length := by rw [← r.length]; exact hl
  have hdn : dV = .none := by
    rcases hdv with ⟨_, h⟩ | ⟨h, _⟩
    · exact h
    · exact absurd rfl h
  subst hdn
  refine codeAny_call_function (Nat.lt_of_le_of_lt hAD hD) (KX _ _ lk) rfl S.co S.gen rfl (PySem.W.codeRec_of KX hcd) ?_
  rw [hb _ _ _ _ _ _ us hul]
  refine wpAny_pure ?_
  refine wpAny_newFunctionEnv_cells S.kind (fun ⟨n, v⟩ hy => .inl (hloc n (List.of_mem_zip hy).1)) fun env he s1 x => ?_
  have hk : ∀ b o, s.heap.get? b = some o → s1.heap.get? b = some o := x.toInCall.keep
  refine ⟨lim.keeps hk, codeAny_func ?_⟩
  have hks : Keeps s s1 := by
    obtain ⟨h1, t1, e1⟩ := x.toInCall.same
    exact ⟨h1, t1, e1, by rw [e1] at hk; exact hk⟩
  have hR : RS base env (ps.zip vs) G _ s1 := ⟨fun b o q => hk b o (hs b o q), x.toInCall.ns, fun q hq => ?_, fun q hq => hk _ _ (hG q hq)⟩
  · have cR : RC scope env := by subst he; exact ⟨S.kind, rfl, rfl, rfl⟩
    refine wpAny_execs_cons (wpAny_Return_some (thn (body env cR (A.deeper env) _ s1 _ hA (Nat.succ_le_succ hAD) hR) fun y s' ⟨ry, ky⟩ => ?_))
    exact ⟨y, rfl, ry, keeps_trans hks ky⟩
  · obtain ⟨i, hi, ei⟩ := List.getElem_of_mem hq
    rw [List.getElem_zip] at ei
    subst ei
    have hi1 : i < ps.length := by rw [List.length_zip] at hi; omega
    have hi2 : i < vs.length := by rw [List.length_zip] at hi; omega
    obtain ⟨u, hu, ru⟩ := r.get (List.getElem?_eq_getElem hi2)
    refine ⟨u, bindL_get hnd (List.getElem?_eq_getElem hi1) hu ?_, ru⟩
    subst he
    exact hloc _ (List.getElem_mem hi1)
end
end Wk
set_option Elab.async false
set_option linter.all false
set_option maxRecDepth 100000
set_option maxHeartbeats 4000000
/-! Wk: all(.. for x in xs), xs a list or a tuple of plain values. -/
namespace Wk
open PySem PySem.Spec PyProof.Rows L2
/-- the kind of a plain value -/
inductive KH (K : PySem.W.Frag) (H : Hp) : V → String → Prop
  | non : KH K H .non "NoneType"
  | bl {b} : KH K H (.bl b) "bool"
  | int {i} : KH K H (.int i) "int"
  | str {z} : KH K H (.str z) "str"
  | lst {a xs} : SqL K H a xs → KH K H (.ref a) "list"
  | tup {a xs} : SqT K H a xs → KH K H (.ref a) "tuple"
theorem KV.more {G G' : Pins} {v : V} {t : String} (h : KV G v t) (hs : ∀ q ∈ G, q ∈ G') : KV G' v t := by
  cases h with
  | non => exact .non
  | bl => exact .bl
  | int => exact .int
  | str => exact .str
  | lst h c => exact .lst (hs _ h) c
  | tup h c => exact .tup (hs _ h) c
  | dct h c => exact .dct (hs _ h) c
section
variable {X : Cx} {pins : List (Addr × Obj)} {σ : L2.St} {H : Hp} {s : Shared}
theorem kv_of {P : Addr} {ps : Array Value} {v : V} {t : String} (I : Inv X pins σ H s) (hP : H P = some (.tbl ps)) (h : KH X.K H v t) : ∃ G : Pins, KV G v t ∧ ∀ q ∈ G, s.heap.get? q.1 = some q.2 ∧ q.1 ≠ P := by
  have nP : ∀ {a : Addr} {o : Obj} {its : Array Value} {n : Nat}, s.heap.get? a = some o → o.data = .seq its n → a ≠ P := fun e d z => by
    rw [z, I.hok P _ hP] at e
    cases e
    cases d
  cases h with
  | non => exact ⟨[], .non, by simp⟩
  | bl => exact ⟨[], .bl, by simp⟩
  | int => exact ⟨[], .int, by simp⟩
  | str => exact ⟨[], .str, by simp⟩
  | @lst a xs e =>
    obtain ⟨its, r, hl, hz⟩ := I.list e
    obtain ⟨o, n, e2, hc, _, hd⟩ := _root_.id hl
    exact ⟨[(a, o)], .lst (List.mem_singleton.mpr rfl) hc, fun q hq => by
      cases List.mem_singleton.mp hq
      exact ⟨e2, nP e2 hd⟩⟩
  | @tup a xs e =>
    obtain ⟨its, r, hl, hz⟩ := I.tuple e
    obtain ⟨o, e2, hc, n, hd⟩ := _root_.id hl
    exact ⟨[(a, o)], .tup (List.mem_singleton.mpr rfl) hc, fun q hq => by
      cases List.mem_singleton.mp hq
      exact ⟨e2, nP e2 hd⟩⟩
theorem kvs_of {P : Addr} {ps : Array Value} (I : Inv X pins σ H s) (hP : H P = some (.tbl ps)) : ∀ (xs : List V), (∀ v ∈ xs, ∃ t, KH X.K H v t) → ∃ G : Pins, (∀ v ∈ xs, ∃ t, KV G v t) ∧ ∀ q ∈ G, s.heap.get? q.1 = some q.2 ∧ q.1 ≠ P
  | [], _ => ⟨[], by simp, by simp⟩
  | v :: xs, h => by
    obtain ⟨t, ht⟩ := h v (List.mem_cons_self ..)
    obtain ⟨G1, k1, g1⟩ := kv_of I hP ht
    obtain ⟨G2, k2, g2⟩ := kvs_of I hP xs fun u hu => h u (List.mem_cons_of_mem _ hu)
    refine ⟨G1 ++ G2, fun u hu => ?_, fun q hq => ?_⟩
    · rcases List.mem_cons.mp hu with rfl | hu
      · exact ⟨t, k1.more fun q hq => List.mem_append_left _ hq⟩
      · obtain ⟨t2, h2⟩ := k2 u hu
        exact ⟨t2, h2.more fun q hq => List.mem_append_right _ hq⟩
    · rcases List.mem_append.mp hq with z | z
      · exact g1 q z
      · exact g2 q z
/-- the element's test -/
def trV (pb : V → Bool) (l : List V) (j : Nat) : Bool := match l[j]? with
  | some b => pb b
  | none => false
theorem trV_some {pb : V → Bool} {l : List V} {j : Nat} {b : V} (h : l[j]? = some b) : trV pb l j = pb b := by
  unfold trV
  rw [h]
theorem all_trV (l : List V) (pb : V → Bool) : (List.range l.length).all (trV pb l) = l.all pb := by
  rw [Bool.eq_iff_iff, List.all_eq_true, List.all_eq_true]
  constructor
  · intro h b hb
    obtain ⟨j, hj, e⟩ := List.getElem_of_mem hb
    have q := h j (List.mem_range.mpr hj)
    rw [trV_some (List.getElem?_eq_getElem hj), e] at q
    exact q
  · intro h j hj
    have hj' := List.mem_range.mp hj
    rw [trV_some (List.getElem?_eq_getElem hj')]
    exact h _ (List.getElem_mem hj')
/-- the generator g over xs, ready to be walked, in the state s5; H1: what was held before -/
def ReadyV (X : Cx) (pins : List (Addr × Obj)) (σ : L2.St) (H1 : Hp) (P : Addr) (xs : List V) (pb : V → Bool) (g : Addr) (s5 : Shared) : Prop :=
  ∃ (fp wr : List Addr) (G : Array GenState → Array GenState → Prop) (F : Nat → Value → Prop) (St : Nat → Shared → Prop),
    WalksS X.prog X.w X.A.in1 g fp wr G xs.length F St ∧ St 0 s5 ∧
    TruthOf X.prog X.w X.A.in1 F (trV pb xs) ∧
    ∀ s', Moved wr G s5 s' → ∃ H2, GxR.Tabbed P H1 H2 ∧ Inv X pins σ H2 s'
/-- what is walked: an iterator object o over the items at y -/
structure Itr (X : Cx) (y : Addr) (its : Array Value) (h0 : Heap) (o : Obj) (St0 : Addr → Nat → Heap → Prop) : Prop where
  w : ∀ (I : Addr) (A' : Around), y ≠ I → A'.handled = none → Walks X.prog X.w A' I [I, y] [I] its.size (fun i v => its[i]? = some v) (St0 I)
  st : St0 h0.objs.size 0 (h0.push o)
  lt : y < h0.objs.size
theorem gen_val {c P : Addr} {elt : Expr} {x : Str} {gpos : Pos} {scope : Scope} {pb : V → Bool} {k : Nat} {Q' : Value → Shared → Prop} {y : Addr} {its : List Value} {xs : List V} {o : Obj} {St0 : Addr → Nat → Heap → Prop} {s1 : Shared} {H1 : Hp} {ps : Array Value}
    (hr : Room k X.A) (TB : GxR.TabB X.base X.mg c P) (hcode : X.env.code = .ref c) (S : GxR.GenS X.env scope x)
    (hel : Mod X.K X.mg X.base → ∀ (cenv : Env) (G : Pins) (v : V) (t : String), RC scope cenv → KV G v t → RE X.prog X.w X.base (X.A.depth + 1) cenv [(x, v)] G elt (.bl (pb v)))
    (I1 : Inv X pins σ H1 s1) (hP : H1 P = some (.tbl ps)) (ht : TriplesOk ps.toList) (hxs : ∀ v ∈ xs, ∃ t, KH X.K H1 v t) (rv : Vals xs its) (hyP : y ≠ P) (IT : Itr X y its.toArray s1.heap o St0)
    (hQ : ∀ g s5, ReadyV X pins σ H1 P xs pb g s5 → Q' (.ref g) s5) :
    (s1.heap.push o).NoLimit ∧ wpAny (model X.prog X.w) X.A (genexprCode X.env gpos (X.env.qual ++ "<genexpr>") scope) (fun code s₃ => wpAny (model X.prog X.w) X.A (builtinsFor X.env.globals X.env.builtins) (fun bi s₄ =>
        ∃ Ia fp wr n₀ Pf St₀ pz F, Value.ref s1.heap.objs.size = .ref Ia ∧ (∀ A' : Around, A'.handled = none → Walks X.prog X.w A' Ia fp wr n₀ Pf St₀) ∧ St₀ 0 s₄.heap ∧ (∀ b ∈ fp, b < s₄.heap.objs.size) ∧ s₄.heap.NoLimit ∧ cStatics ∉ wr ∧
          (∀ href : Heap, (∀ b o, s₄.heap.get? b = some o → href.get? b = some o) →
            QuietGenD X.prog X.w (genEnv scope (cloFrom X.env.cells scope.names []) s₄.heap.objs.size code bi X.env) x [] elt (List.range s₄.heap.objs.size) wr Pf pz F href (X.A.depth + 1) (X.A.units + 8)) ∧
          (∀ a h₅ tk gs, gs.bare = true → s₄.heap.objs.size < a → h₅.objs.size = a + 1 → (∀ b o, s₄.heap.get? b = some o → h₅.get? b = some o) →
            WalksS X.prog X.w X.A.in4 a (a :: s₄.heap.objs.size :: List.range s₄.heap.objs.size) (s₄.heap.objs.size :: wr) (GenOnlyQ s₄.gens.size) (passing pz n₀ 0).length
              (fun j y => ∃ i, (passing pz n₀ 0)[j]? = some i ∧ F i y) (GenAt X.prog X.w X.A.in4 a s₄.gens.size s₄.heap.objs.size (List.range s₄.heap.objs.size) wr pz n₀ F) →
            GenAt X.prog X.w X.A.in4 a s₄.gens.size s₄.heap.objs.size (List.range s₄.heap.objs.size) wr pz n₀ F 0 { s₄ with gens := s₄.gens.push gs, toks := tk, heap := h₅ } →
            Q' (.ref a) { s₄ with gens := s₄.gens.push gs, toks := tk, heap := h₅ })) X.xe s₃) X.xe { s1 with heap := s1.heap.push o } := by
  obtain ⟨G, hkv, hG⟩ := kvs_of I1 hP xs hxs
  have hlen : its.length = xs.length := by rw [← rv.length]
  have hat : ∀ (i : Nat) (u : Value), its.toArray[i]? = some u → ∃ v, xs[i]? = some v ∧ RelV v u := fun i u hv => by
    have hv2 : its[i]? = some u := by simpa using hv
    have hi2 : i < its.length := (List.getElem?_eq_some_iff.mp hv2).1
    obtain ⟨a, ha⟩ : ∃ a, xs[i]? = some a := ⟨xs[i]'(by omega), List.getElem?_eq_getElem _⟩
    obtain ⟨u2, hu, ru⟩ := rv.get ha
    rw [hv2] at hu
    cases hu
    exact ⟨a, ha, ru⟩
  have hPs : s1.heap.get? P = some { cls := .none, data := .fields ps } := I1.hok P _ hP
  have hPlt : P < s1.heap.objs.size := Heap.lt_size hPs
  have hP2 : (s1.heap.push o).get? P = some { cls := .none, data := .fields ps } := Heap.get?_push_of_some _ hPs
  have cd : PySem.W.CodeHd (s1.heap.push o) c P := TB.code.keeps fun b u e => Heap.get?_push_of_some _ (I1.bk b u e)
  have lim2 : (s1.heap.push o).NoLimit := I1.nolimit.push o
  have hylt := IT.lt
  have cont : ∀ (code : Value) (h3 : Heap) (tk : Nat) (ps' : Array Value), Heap.ExtBut P (s1.heap.push o) h3 → (s1.heap.push o).objs.size ≤ h3.objs.size → h3.get? P = some { cls := .none, data := .fields ps' } → (∃ more, ps' = ps ++ more) → TriplesOk ps'.toList →
      wpAny (model X.prog X.w) X.A (builtinsFor X.env.globals X.env.builtins) (fun bi s₄ =>
        ∃ Ia fp wr n₀ Pf St₀ pz F, Value.ref s1.heap.objs.size = .ref Ia ∧ (∀ A' : Around, A'.handled = none → Walks X.prog X.w A' Ia fp wr n₀ Pf St₀) ∧ St₀ 0 s₄.heap ∧ (∀ b ∈ fp, b < s₄.heap.objs.size) ∧ s₄.heap.NoLimit ∧ cStatics ∉ wr ∧
          (∀ href : Heap, (∀ b o, s₄.heap.get? b = some o → href.get? b = some o) →
            QuietGenD X.prog X.w (genEnv scope (cloFrom X.env.cells scope.names []) s₄.heap.objs.size code bi X.env) x [] elt (List.range s₄.heap.objs.size) wr Pf pz F href (X.A.depth + 1) (X.A.units + 8)) ∧
          (∀ a h₅ tk gs, gs.bare = true → s₄.heap.objs.size < a → h₅.objs.size = a + 1 → (∀ b o, s₄.heap.get? b = some o → h₅.get? b = some o) →
            WalksS X.prog X.w X.A.in4 a (a :: s₄.heap.objs.size :: List.range s₄.heap.objs.size) (s₄.heap.objs.size :: wr) (GenOnlyQ s₄.gens.size) (passing pz n₀ 0).length
              (fun j y => ∃ i, (passing pz n₀ 0)[j]? = some i ∧ F i y) (GenAt X.prog X.w X.A.in4 a s₄.gens.size s₄.heap.objs.size (List.range s₄.heap.objs.size) wr pz n₀ F) →
            GenAt X.prog X.w X.A.in4 a s₄.gens.size s₄.heap.objs.size (List.range s₄.heap.objs.size) wr pz n₀ F 0 { s₄ with gens := s₄.gens.push gs, toks := tk, heap := h₅ } →
            Q' (.ref a) { s₄ with gens := s₄.gens.push gs, toks := tk, heap := h₅ })) X.xe { s1 with heap := h3, toks := tk } := by
    intro code h3 tk ps' hx hsz hP3 hmore ht3
    obtain ⟨bm, ob, e1, e2, e3, e4, e5, e6, e7, e8⟩ := TB.bm
    have hcP : cStatics ≠ P := fun e => by
      obtain ⟨_, hns, _⟩ := I1.nolimit
      obtain ⟨o', es, ep, ho, hd, _⟩ := hns
      rw [e, hPs] at ho
      cases ho
      cases hd
    have hcl : cStatics < s1.heap.objs.size := let ⟨_, hns, _⟩ := I1.nolimit; hns.lt
    have sz2 : (s1.heap.push o).objs.size = s1.heap.objs.size + 1 := Heap.size_push ..
    have keep3 : ∀ b u, b ≠ P → s1.heap.get? b = some u → h3.get? b = some u := fun b u hb e => hx b u hb (Heap.get?_push_of_some _ e)
    have hbP : ∀ b u, X.base.get? b = some u → b ≠ P := fun b u e z => by
      have e2 := (I1.bs b u e).2
      rw [z, hP] at e2
      cases e2
    refine wpAny_builtinsFor (m := X.mg) (by rw [I1.ok.glob]; exact ((I1.mod.glob.keeps I1.bk).push o).extBut hx TB.gP) e1 e2 (keep3 _ _ e4 (I1.bk _ _ e5)) e6 e7 e8 ?_
    refine ⟨s1.heap.objs.size, [s1.heap.objs.size, y], [s1.heap.objs.size], its.toArray.size, (fun i v => its.toArray[i]? = some v), St0 s1.heap.objs.size, (fun _ => true),
      (fun i z => ∃ v, xs[i]? = some v ∧ z = .bool (pb v)), rfl, (fun A' hA => IT.w _ A' (Nat.ne_of_lt hylt) hA), ?_, ?_, lim2.extBut hx hcP, ?_, ?_, ?_⟩
    · refine (IT.w _ X.A (Nat.ne_of_lt hylt) hr.hd).frame _ _ _ IT.st fun b hb u e => hx b u (fun z => ?_) e
      rcases List.mem_cons.mp hb with z2 | z2
      · exact Nat.ne_of_lt hPlt (z.symm.trans z2)
      · exact hyP ((List.mem_singleton.mp z2).symm.trans z)
    · intro b hb
      rcases List.mem_cons.mp hb with z | z
      · rw [z]
        show s1.heap.objs.size < h3.objs.size
        omega
      · rw [List.mem_singleton.mp z]
        have e9 : s1.heap.objs.size ≤ h3.objs.size := by omega
        exact Nat.lt_of_lt_of_le hylt e9
    · intro z
      rcases List.mem_cons.mp z with z | z
      · exact Nat.ne_of_lt hcl z
      · cases z
    · intro href hhref
      refine ⟨fun A' E' i v s₂ m₂ hA hD hU hPv hn hm hk => ?_, fun A' E' i u s₂ m₂ hA hD hU hPv hp hn hm hk => ?_⟩
      · simp only [List.forIn_nil]
        exact wpAny_pure ⟨rfl, keeps_self _⟩
      · obtain ⟨v, hv, ru⟩ := hat i u hPv
        obtain ⟨t, kv⟩ := hkv v (List.mem_of_getElem? hv)
        have kept : ∀ b q, b ≠ P → s1.heap.get? b = some q → s₂.heap.get? b = some q := fun b q hb e => by
          have hl := Heap.lt_size e
          refine hk b (List.mem_range.mpr (Nat.lt_of_lt_of_le hl (show s1.heap.objs.size ≤ h3.objs.size by omega))) (fun z => ?_) q (hhref b q (keep3 b q hb e))
          rw [List.mem_singleton.mp z] at hl
          exact Nat.lt_irrefl _ hl
        have hR : RS X.base (genEnv scope (cloFrom X.env.cells scope.names []) h3.objs.size code builtinsNs X.env) [(x, v)] G m₂ s₂ :=
          ⟨fun b q e => kept b q (hbP b q e) (I1.bk b q e), hn, fun q hq => by cases List.mem_singleton.mp hq; exact ⟨u, hm, ru⟩, fun q hq => kept q.1 q.2 (hG q hq).2 (hG q hq).1⟩
        refine wpAny_mono (hel I1.mod (genEnv scope (cloFrom X.env.cells scope.names []) h3.objs.size code builtinsNs X.env) G v t ⟨S.kind, rfl, I1.ok.glob, rfl⟩ kv A' E' s₂ m₂ hA hD hR) (fun z s3 r => ⟨⟨v, hv, ?_⟩, r.2⟩) fun _ _ e => e
        exact r.1
    · intro g h5 tk5 gs hgb hag hsz5 hk5 W5 hgat
      simp only [GxR.passing_true, List.length_range] at W5
      have hn5 : its.toArray.size = xs.length := by rw [List.size_toArray, hlen]
      rw [hn5] at W5 hgat
      refine hQ g _ ⟨_, _, _, _, _, W5.in4_1, hgat, ?_, fun s' hm => ?_⟩
      · intro j z sj Qj Ej hy hQj
        obtain ⟨i, hij, v, hv, rfl⟩ := hy
        obtain ⟨hj, ej⟩ := List.getElem?_eq_some_iff.mp hij
        rw [List.getElem_range] at ej
        subst ej
        rw [trV_some hv] at hQj
        exact wpAny_truthy_bool hQj
      · obtain ⟨more, em⟩ := hmore
        have nwr : ∀ b u, s1.heap.get? b = some u → b ∉ h3.objs.size :: [s1.heap.objs.size] := fun b u e hb => by
          have hl := Heap.lt_size e
          rcases List.mem_cons.mp hb with z | z
          · rw [z] at hl
            have h9 : (h3.objs.size : Nat) < s1.heap.objs.size := hl
            omega
          · rcases List.mem_cons.mp z with z | z
            · rw [z] at hl
              exact Nat.lt_irrefl _ hl
            · cases z
        have J := GxR.inv_tab (more := more) (h' := s'.heap) (g' := s'.gens) (d' := s'.drawn) (t' := s'.toks) I1 hP (fun b u hb e => hm.heap b u (nwr b u e) (hk5 b u (keep3 b u hb e)))
          (by rw [← em]; exact hm.heap P _ (nwr P _ hPs) (hk5 P _ hP3)) (AllBare.movedS (I1.bare.push hgb) hm)
        rw [GxR.sh_eta s1 s' hm.os] at J
        refine ⟨upd H1 P (.tbl (ps ++ more)), ⟨⟨ps ++ more, upd_same, by rw [← em]; exact ht3⟩, fun b hb => upd_ne hb⟩, J⟩
  refine ⟨lim2, ?_⟩
  cases hf : codeAmong gpos ps.toList with
  | none =>
    refine wpAny_genexprCodeX hcode (cd.code hP2 ht) (cd.tab hP2) hf fun c' h' tk hx hge hlt hco' _ htab' _ => ?_
    obtain ⟨o1, vs, f1, tf, fl, tg, inF, tx, tt, op, _, _, _, _, _, _, _, _, _, htr, _⟩ := hco'
    exact cont _ h' tk _ hx (Nat.le_trans hge (Nat.le_of_lt hlt)) htab'.2 ⟨_, rfl⟩ htr
  | some cv =>
    refine wpAny_genexprCode_hit hcode (cd.code hP2 ht) hf ?_
    exact cont cv (s1.heap.push o) s1.toks ps (Heap.ExtBut.refl _ _) (Nat.le_refl _) hP2 ⟨#[], by simp⟩ ht
/-- all(test for x in e), e a list or a tuple of plain values; behind it the def's table may have grown -/
def tAllV (K : PySem.W.Frag) (P : Addr) (pb : V → Bool) (te : TE) : TE := fun σ H Q => te σ H fun v H1 => ∃ (y : Addr) (xs : List V), v = .ref y ∧ (SqL K H1 y xs ∨ SqT K H1 y xs) ∧ (∀ v ∈ xs, ∃ t, KH K H1 v t) ∧ GxR.TabG H1 P ∧ ∀ H2, GxR.Tabbed P H1 H2 → Q (.bl (xs.all pb)) H2
theorem pe_allV {c P : Addr} {elt iter : Expr} {x : Str} {px p pos gpos : Pos} {scope : Scope} {pb : V → Bool} {te : TE} {k : Nat}
    (hr : Room k X.A) (hg : Gl X "all") (hm : X.mg "all" = none) (TB : GxR.TabB X.base X.mg c P) (hcode : X.env.code = .ref c) (S : GxR.GenS X.env scope x) (hi : PE X iter te)
    (hel : Mod X.K X.mg X.base → ∀ (cenv : Env) (G : Pins) (v : V) (t : String), RC scope cenv → KV G v t → RE X.prog X.w X.base (X.A.depth + 1) cenv [(x, v)] G elt (.bl (pb v)))
    (hs : ∀ v, genFold iter X.env v = pure v)
    (he : starEach [.GeneratorExp elt [⟨.Name x px, iter, [], 0⟩] scope gpos] X.env = (false, eval (.GeneratorExp elt [⟨.Name x px, iter, [], 0⟩] scope gpos) X.env) :: starEach [] X.env := by rfl) :
    PE X (.Call (.Name "all" p) [.GeneratorExp elt [⟨.Name x px, iter, [], 0⟩] scope gpos] [] pos) (tAllV X.K P pb te) := by
  refine ⟨fun pins s σ H Q I h => ?_⟩
  refine wpAny_Call_Name_kw (ld_blt I hg hm (by rfl) ?_)
  refine PyProof.Rows.callWith_builtin1 ?_ he (by rfl)
  rw [he]
  show wpAny _ _ (spliced ((false, eval (.GeneratorExp elt [⟨.Name x px, iter, [], 0⟩] scope gpos) X.env) :: backTo pos (starEach [] X.env))) _ _ s
  refine Calls.spliced_cons ?_
  refine wpAny_GeneratorExp_walksQD hr.hd S.co (closure_ok S.free) S.cell S.dot S.loc S.kind (by have := hr.dp; omega) ?_ hs
  refine thn (hi.run pins s σ H _ I h) fun xv s1 ⟨v, H1, I1, r1, q1⟩ => ?_
  obtain ⟨y, xs, rfl, hy, hxs, ⟨ps, hP, ht⟩, hR⟩ := q1
  obtain rfl : xv = Value.ref y := r1
  have fin : ∀ g s5, ReadyV X pins σ H1 P xs pb g s5 → (fun u s₁ => wpAny (model X.prog X.w) X.A (spliced (backTo pos (starEach [] X.env))) (fun vs s₁ => wpAny (model X.prog X.w) X.A (call (.builtin "all") (u :: vs)) (EP X pins σ Q) X.xe s₁) X.xe s₁) (.ref g) s5 := fun g s5 hG => by
    obtain ⟨fp, wr, G, F, St, W, hst, htr, hI⟩ := hG
    refine Calls.spliced_nil ?_
    refine call_all_walkS (W.self 0 _ _ _ hst ⟨g, fp, wr, G, _, F, St, _, rfl, W, hst, htr, fun s' hmv => ?_⟩)
    obtain ⟨H2, hT, J⟩ := hI s' hmv
    refine ⟨.bl _, H2, J, rfl, ?_⟩
    rw [all_trV]
    exact hR H2 hT
  rcases hy with hy | hy
  · obtain ⟨its, rv, hl, hz⟩ := I1.list hy
    have hIL := hl.isList
    have hyP : y ≠ P := fun z => by
      obtain ⟨_, e, hc1, _, hd1⟩ := _root_.id hIL
      rw [z, I1.hok P _ hP] at e
      cases e
      cases hd1
    refine wpAny_pyIter_list hIL ?_
    refine gen_val (Q' := fun u s₁ => wpAny (model X.prog X.w) X.A (spliced (backTo pos (starEach [] X.env))) (fun vs s₁ => wpAny (model X.prog X.w) X.A (call (.builtin "all") (u :: vs)) (EP X pins σ Q) X.xe s₁) X.xe s₁) (St0 := fun I i h => h.IsListIter I y i ∧ h.IsList y its.toArray) hr TB hcode S hel I1 hP ht hxs rv hyP ⟨fun I A' hne hA => Walks.list hA I y hne _, ?_, ?_⟩ fin
    · exact ⟨⟨_, Heap.get?_push_size _ rfl, rfl, rfl⟩, by
        obtain ⟨ob, e, r⟩ := _root_.id hIL
        exact ⟨ob, Heap.get?_push_of_some _ e, r⟩⟩
    · obtain ⟨_, e, _⟩ := _root_.id hIL
      exact Heap.lt_size e
  · obtain ⟨its, rv, hl, hz⟩ := I1.tuple hy
    have hIT : s1.heap.IsTuple y its.toArray := hl
    have hyP : y ≠ P := fun z => by
      obtain ⟨_, e, hc1, hd1⟩ := _root_.id hl
      obtain ⟨_, hd1⟩ := hd1
      rw [z, I1.hok P _ hP] at e
      cases e
      cases hd1
    refine wpAny_pyIter_tuple hIT ?_
    refine gen_val (Q' := fun u s₁ => wpAny (model X.prog X.w) X.A (spliced (backTo pos (starEach [] X.env))) (fun vs s₁ => wpAny (model X.prog X.w) X.A (call (.builtin "all") (u :: vs)) (EP X pins σ Q) X.xe s₁) X.xe s₁) (St0 := fun I i h => h.IsTupleIter I y i ∧ h.IsTuple y its.toArray) hr TB hcode S hel I1 hP ht hxs rv hyP ⟨fun I A' hne hA => Walks.tuple hA I y hne _, ?_, ?_⟩ fin
    · exact ⟨⟨_, Heap.get?_push_size _ rfl, rfl, rfl⟩, hIT.at fun o e => Heap.get?_push_of_some _ e⟩
    · obtain ⟨_, e, _⟩ := _root_.id hl
      exact Heap.lt_size e
end
end Wk
set_option Elab.async false
set_option linter.all false
set_option maxRecDepth 100000
set_option maxHeartbeats 4000000
/-! Wk: calls without arguments, by keywords alone; own classes: methods, properties, making. -/
namespace Wk
open PySem PySem.Spec PyProof.Rows L2
/-- a def that is called with n positional values and these keywords -/
structure CalK (P : Program) (w : World) (K : PySem.W.Frag) (mg : Str → Option Value) (base : Heap) (k : Nat) (x : Str) (sp : Sp) (n : Nat) (ks : List Str) (gV : List V → List V → List V) : Prop where
  ex : ∃ (f : Addr) (fd : FuncData) (ps : List Str) (g : List Value → List Value → List Value), FnOk P w K mg base C8.CX0 k f fd ps sp ∧ mg x = some (.ref f) ∧ PySem.W.keepIn K (.ref f) = true ∧ KBn K fd ps n ks g gV
/-- a property of the class at C -/
structure Prp (P : Program) (w : World) (K : PySem.W.Frag) (mg : Str → Option Value) (base : Heap) (k : Nat) (C : Addr) (m : Str) (sp : Sp) : Prop where
  ex : ∃ (p f : Addr) (fd : FuncData) (ps : List Str), Cls K C ∧ PropOf K C m p f ∧ FnOk P w K mg base C8.CX0 k f fd ps sp ∧ Binds K fd ps []
def tCallK (m : Nat) (sp : Sp) (gV : List V → List V → List V) (E : XK) (tk : TA) : TE := fun σ H Q => tk σ H fun zs H2 => zs.length = m ∧ sp (gV [] zs) H2 Q E
section
variable {X : Cx} {j k : Nat} {x m : Str} {sp : Sp} {dvs : List V} {ks : List Str} {gV : List V → List V → List V} {p pos apos : Pos} {kws : List Keyword} {tk : TA} {C : Addr} {o : Expr} {ta : TE}
theorem pe_c0 (c : C8.Cal X.prog X.w X.K X.mg X.base k x sp dvs) (hr : Room j X.A) (hk : k ≤ j) (hg : Gl X x) (hdb : (x == ("__debug__" : Str)) = false := by decide) : PE X (.Call (.Name x p) [] [] pos) (tCall sp dvs C8.E0 tNil) := by
  obtain ⟨f, fd, ps, ds, F, hm, kp, b, d⟩ := c.ex
  exact pe_call0 F (hr.mono hk) hg hm kp b d C8.pass0 hdb
theorem pe_mk0 (c : C8.Mak X.prog X.w X.K X.mg X.base k x C sp dvs) (hr : Room j X.A) (hk : k + 1 ≤ j) (hg : Gl X x) (hdb : (x == ("__debug__" : Str)) = false := by decide) : PE X (.Call (.Name x p) [] [] pos) (tMake C sp dvs C8.E0 tNil) := by
  obtain ⟨f, fd, ps, ds, M, F, hm, b, d⟩ := c.ex
  exact pe_make0 M F (hr.mono hk) hg hm b d C8.pass0 hdb
/-- f(k = v, ..) -/
theorem pe_ck (c : CalK X.prog X.w X.K X.mg X.base k x sp 0 ks gV) (hr : Room j X.A) (hk : k ≤ j) (hg : Gl X x) (hkw : PK X kws tk) (hall : (backToKw pos (keywordEach kws X.env)).all (·.1.isSome) = true := by rfl) (hks : (backToKw pos (keywordEach kws X.env)).filterMap (·.1) = ks := by rfl)
    (hdb : (x == ("__debug__" : Str)) = false := by decide) (hpl : ((backTo pos (starEach [] X.env)).any (·.1) || (backToKw pos (keywordEach kws X.env)).any (·.1.isNone)) = false := by rfl) :
    PE X (.Call (.Name x p) [] kws pos) (tCallK ks.length sp gV C8.E0 tk) := by
  obtain ⟨f, fd, ps, g, F, hm, kp, b⟩ := c.ex
  refine ⟨fun pins s σ H Q I h => ?_⟩
  refine wpAny_Call_Name_kw (ld_glob I hg hm ?_ hdb)
  refine PySem.W.callWith_KW0 (h₀ := X.base) I.ok.mod.kin kp hall ?_ hpl
  refine thn (hkw.run pos pins s σ H _ I h) fun ws s2 ⟨zs, H2, I2, rz, l2, q2⟩ => ⟨I2.kIn, ?_⟩
  rw [hks]
  exact run_fnN F (hr.mono hk) b C8.pass0 I2 .nil rz rfl l2 q2
/-- f(e, .., k = v, ..) -/
theorem pe_ckp {n : Nat} {e : Expr} {es : List Expr} {t : TA} (c : CalK X.prog X.w X.K X.mg X.base k x sp n ks gV) (hr : Room j X.A) (hk : k ≤ j) (hg : Gl X x) (ha : PA X (e :: es) t) (hkw : PK X kws tk) (hall : (backToKw pos (keywordEach kws X.env)).all (·.1.isSome) = true := by rfl) (hks : (backToKw pos (keywordEach kws X.env)).filterMap (·.1) = ks := by rfl)
    (hdb : (x == ("__debug__" : Str)) = false := by decide) (he : starEach (e :: es) X.env = (false, eval e X.env) :: starEach es X.env := by rfl) (hpl : ((backTo pos (starEach (e :: es) X.env)).any (·.1) || (backToKw pos (keywordEach kws X.env)).any (·.1.isNone)) = false := by rfl) :
    PE X (.Call (.Name x p) (e :: es) kws pos) (tCallN n ks.length sp gV C8.E0 t tk) := by
  obtain ⟨f, fd, ps, g, F, hm, kp, b⟩ := c.ex
  exact pe_callN F (hr.mono hk) hg hm kp b C8.pass0 ha hkw hall hks hdb he hpl
/-- e.m, a property -/
theorem pe_pr (c : Prp X.prog X.w X.K X.mg X.base k C m sp) (hr : Room j X.A) (hk : k + 1 ≤ j) (he : PE X o ta) (hab : attributeBase o m X.env (eval o X.env) = eval o X.env := by rfl) : PE X (.Attribute o m pos) (tProp C sp [] C8.E0 ta) := by
  obtain ⟨q, f, fd, ps, hc, hp, F, b⟩ := c.ex
  exact pe_prop he hc hp F (hr.mono hk) b .nil C8.pass0 hab
end
/-! ### steps -/
def KMeth (C : Addr) (m : Str) (sp : Sp) (dvs : List V) (E : XK) (t : TA) (σ : L2.St) (Q : VK) (x : V) (H1 : Hp) : Prop := ∃ a dx fs, x = .ref a ∧ H1 a = some (.ins C dx fs) ∧ fs.lookup m = none ∧ t σ H1 fun vs H2 => sp (x :: (vs ++ dvs)) H2 Q E
def KMake (C : Addr) (sp : Sp) (dvs : List V) (E : XK) (Q : VK) (vs : List V) (H1 : Hp) : Prop := ∀ x dx, H1 x = none → H1 dx = none → dx ≠ x → sp (.ref x :: (vs ++ dvs)) (upd (upd H1 dx (.own x)) x (.ins C dx [])) (fun v H2 => v = .non ∧ Q (.ref x) H2) E
def KProp (C : Addr) (sp : Sp) (E : XK) (Q : VK) (x : V) (H1 : Hp) : Prop := ∃ a dx fs, x = .ref a ∧ H1 a = some (.ins C dx fs) ∧ sp [.ref a] H1 Q E
section
variable {σ : L2.St} {H : Hp} {Q : VK} {C : Addr} {m : Str} {sp : Sp} {dvs : List V} {E : XK} {t : TA} {ta te : TE} {a dx : Addr} {fs : List (Str × V)} {n : Nat} {gV : List V → List V → List V} {D : Ends} {f : Str} {K : PySem.W.Frag} {v : V}
theorem w_meth (h : ta σ H fun x H1 => KMeth C m sp dvs E t σ Q x H1) : tMeth C m sp dvs E ta t σ H Q := h
theorem w_kmeth (ho : H a = some (.ins C dx fs)) (l : fs.lookup m = none) (h : t σ H fun vs H2 => sp (.ref a :: (vs ++ dvs)) H2 Q E) : KMeth C m sp dvs E t σ Q (.ref a) H := ⟨a, dx, fs, rfl, ho, l, h⟩
theorem w_make (h : t σ H fun vs H1 => KMake C sp dvs E Q vs H1) : tMake C sp dvs E t σ H Q := h
theorem w_prop (h : ta σ H fun x H1 => KProp C sp E Q x H1) : tProp C sp [] E ta σ H Q := h
theorem w_kprop (ho : H a = some (.ins C dx fs)) (h : sp [.ref a] H Q E) : KProp C sp E Q (.ref a) H := ⟨a, dx, fs, rfl, ho, h⟩
theorem w_callN {n m : Nat} {tk : TA} (h : t σ H fun vs H1 => tk σ H1 fun zs H2 => vs.length = n ∧ zs.length = m ∧ sp (gV vs zs) H2 Q E) : tCallN n m sp gV E t tk σ H Q := h
theorem w_callK (h : t σ H fun zs H2 => zs.length = n ∧ sp (gV [] zs) H2 Q E) : tCallK n sp gV E t σ H Q := h
end
section
variable {K : PySem.W.Frag}
theorem w_gtup {n : Nat} {t : TGs} {σ : L2.St} {a : Addr} {xs : List V} {H : Hp} {R : L2.St → Hp → Prop} (h : SqT K H a xs) (hn : xs.length = n) (q : t xs σ H R) : gTup K n t (.ref a) σ H R := ⟨a, xs, rfl, h, hn, q⟩
theorem w_gcons {t : TG} {u : TGs} {v : V} {r : List V} {σ : L2.St} {H : Hp} {R : L2.St → Hp → Prop} (q : t v σ H fun σ' H' => u r σ' H' R) : gCons t u (v :: r) σ H R := ⟨v, r, rfl, q⟩
theorem w_gnil {σ : L2.St} {H : Hp} {R : L2.St → Hp → Prop} (q : R σ H) : gNil [] σ H R := ⟨rfl, q⟩
theorem w_gname {n : Nat} {v : V} {σ : L2.St} {H : Hp} {R : L2.St → Hp → Prop} (q : R (σ.set n (some v)) H) : gName n v σ H R := q
def KStar (K : PySem.W.Frag) (t : TA) (σ : L2.St) (Q : List V → Hp → Prop) (x : V) (H1 : Hp) : Prop := ∃ p xs, x = V.ref p ∧ (SqT K H1 p xs ∨ SqL K H1 p xs) ∧ t σ H1 fun ys H2 => Q (xs ++ ys) H2
theorem w_star {te : TE} {t : TA} {σ : L2.St} {H : Hp} {Q : List V → Hp → Prop} (h : te σ H fun x H1 => KStar K t σ Q x H1) : StX.tStar K te t σ H Q := h
theorem w_kstarL {t : TA} {σ : L2.St} {H : Hp} {Q : List V → Hp → Prop} {p : Addr} {xs : List V} (e : SqL K H p xs) (h : t σ H fun ys H2 => Q (xs ++ ys) H2) : KStar K t σ Q (.ref p) H := ⟨p, xs, rfl, .inr e, h⟩
theorem w_kstarT {t : TA} {σ : L2.St} {H : Hp} {Q : List V → Hp → Prop} {p : Addr} {xs : List V} (e : SqT K H p xs) (h : t σ H fun ys H2 => Q (xs ++ ys) H2) : KStar K t σ Q (.ref p) H := ⟨p, xs, rfl, .inl e, h⟩
end
section
variable {K : PySem.W.Frag} {H : Hp} {Q : VK} {x : V}
theorem c_isiT2 {t A B : String} {a b r : Bool} {tp : Addr} (ht : H tp = some (.tup [.ty A, .ty B])) (ty : TyX K H x (.type t)) (ha : kitB t A = some a) (hb : kitB t B = some b) (hr : (a || b) = r) (q : Q (.bl r) H) : CB (rIsiT K) [x, .ref tp] H Q := by
  refine ⟨x, tp, _, .type t, [.type A, .type B], r, rfl, ht, .cons (.ty A) (.cons (.ty B) .nil), ty, ?_, q⟩
  subst hr
  have e1 := kit_ty (K := K) ha
  have e2 := kit_ty (K := K) hb
  cases a <;> cases b <;> simp [PySem.W.kitAny, e1, e2]
theorem w_cat {l b : Addr} {xs zs : List V} (h1 : H l = some (.lst xs)) (h2 : H b = some (.lst zs)) (hz : xs.length + zs.length ≤ sizeLine) (q : ∀ p H2, New H H2 p (.lst (xs ++ zs)) → Q (.ref p) H2) : rCat (.ref l) (.ref b) H Q :=
  ⟨l, b, xs, zs, rfl, rfl, h1, h2, hz, fun p hp => q p _ (New.of hp)⟩
theorem w_rep {l : Addr} {k : Int} {xs : List V} (h1 : H l = some (.lst xs)) (h2 : -(2 ^ 63) ≤ k) (h3 : k < 2 ^ 63) (hz : xs.length * k.toNat ≤ sizeLine) (q : ∀ p H2, New H H2 p (.lst (List.replicate k.toNat xs).flatten) → Q (.ref p) H2) : rRep (.ref l) (.int k) H Q :=
  ⟨l, k, xs, rfl, rfl, h1, h2, h3, hz, fun p hp => q p _ (New.of hp)⟩
def KSFld (K : PySem.W.Frag) (f : Str) (D : Ends) (σ : L2.St) (y x : V) (H2 : Hp) : Prop := ∃ a C dx fs, x = .ref a ∧ H2 a = some (.ins C dx fs) ∧ Cls K C ∧ NoAttr K C f ∧ fs.length < 1000 ∧ D.nx σ (upd H2 a (.ins C dx (putF f y fs)))
theorem w_sfld {ta tv : TE} {f : Str} {D : Ends} {σ : L2.St} (h : tv σ H fun y H1 => ta σ H1 fun x H2 => KSFld K f D σ y x H2) : sFld K ta tv f D σ H := h
theorem w_ksfld {f : Str} {D : Ends} {σ : L2.St} {y : V} {a C dx : Addr} {fs : List (Str × V)} (ho : H a = some (.ins C dx fs)) (c : Cls K C) (n : NoAttr K C f) (hl : fs.length < 1000) (q : ∀ H2, Chg H H2 a (.ins C dx (putF f y fs)) → D.nx σ H2) : KSFld K f D σ y (.ref a) H :=
  ⟨a, C, dx, fs, rfl, ho, c, n, hl, q _ Chg.of⟩
end
section
variable {K : PySem.W.Frag} {H H1 : Hp} {a tP : Addr} {xs : List V}
theorem tab_ne {o : HO} (e : H a = some o) (t : GxR.TabG H tP) (ho : ∀ ps, o ≠ .tbl ps) : a ∉ [tP] := fun z => by
  obtain ⟨ps, h, _⟩ := t
  rw [List.mem_singleton.mp z, h] at e
  exact ho ps (Option.some.inj e).symm
theorem tabT (h : SqT K H a xs) (t : GxR.TabG H tP) (u : Upt [tP] H H1) : SqT K H1 a xs := by
  rcases h with (h | ⟨q, h⟩) | h
  · exact .inl (.inl (u a _ (tab_ne h t fun _ z => by cases z) h))
  · exact .inl (.inr ⟨q, u a _ (tab_ne h t fun _ z => by cases z) h⟩)
  · exact .inr h
theorem tabL (h : SqL K H a xs) (t : GxR.TabG H tP) (u : Upt [tP] H H1) : SqL K H1 a xs := by
  rcases h with (h | ⟨q, h⟩) | h
  · exact .inl (.inl (u a _ (tab_ne h t fun _ z => by cases z) h))
  · exact .inl (.inr ⟨q, u a _ (tab_ne h t fun _ z => by cases z) h⟩)
  · exact .inr h
theorem tabO {o : HO} (e : H a = some o) (ho : ∀ ps, o ≠ .tbl ps) (t : GxR.TabG H tP) (u : Upt [tP] H H1) : H1 a = some o := u a o (tab_ne e t ho) e
theorem tabG {S : List Addr} (t : GxR.TabG H tP) (n : tP ∉ S) (u : Upt S H H1) : GxR.TabG H1 tP := let ⟨ps, e, h⟩ := t; ⟨ps, u tP _ n e, h⟩
end
theorem w_inT {K : PySem.W.Frag} {H : Hp} {Q : VK} {x : V} {p : Addr} {xs : List V} {b : Bool} (h : H p = some (.tup xs)) (fx : flatV x = true) (fs : xs.all flatV = true) (e : inV x xs = b) (q : Q (.bl b) H) : rIn K false x (.ref p) H Q := ⟨p, xs, rfl, .inr (SqT.of h), fx, fs, by subst e; exact q⟩
theorem offT {K : PySem.W.Frag} {H H1 : Hp} {a b : Addr} {xs ys : List V} (h : SqT K H a xs) (e : H b = some (.lst ys)) (u : Upt [b] H H1) : SqT K H1 a xs := by
  rcases h with (h | ⟨q, h⟩) | h
  · exact .inl (.inl (u.at1 (fun z => by rw [z, e] at h; cases h) h))
  · exact .inl (.inr ⟨q, u.at1 (fun z => by rw [z, e] at h; cases h) h⟩)
  · exact .inr h
theorem w_slT {K : PySem.W.Frag} {σ : L2.St} {H : Hp} {Q : VK} {a : Addr} {xs : List V} {n : Nat} {i : Int} (hv : σ[n]? = some (some (.ref a))) (h : SqT K H a xs) (hn : ¬ (HT.sIx xs.length 0 (some i) = 0 ∧ HT.sIx xs.length xs.length none = xs.length)) (q : ∀ p H2, New H H2 p (.tup (cutV xs (some i) none)) → Q (.ref p) H2) :
    tSl (rSlT K) (tVar n) (tPart (tC (.int i))) tNoPart σ H Q := ⟨_, hv, i, rfl, a, xs, rfl, h, hn, fun p hp => q p _ (New.of hp)⟩
theorem Upt.chgNew {H H1 H2 : Hp} {p : Addr} {o : HO} (U : Upt [] H H1) (z : H p = none) (g : Chg H1 H2 p o) : Upt [] H H2 := fun b ob nb e => g.keep.at1 (fun q => by rw [q, z] at e; cases e) (U b ob nb e)
/-! ### methods as they stand -/
def DefM (K : PySem.W.Frag) (x qual : Str) (st : Stmt) (dvs : List V) (f : Addr) (fd : FuncData) : Prop := FunD K x qual (defArgs st) (defBody st) (defScope st) dvs [] f fd
def MetAt (K : PySem.W.Frag) (C : Addr) (x qual : Str) (st : Stmt) : Prop := ∃ f fd, DefM K x qual st [] f fd ∧ Cls K C ∧ Meth K C x f
def PrpAt (K : PySem.W.Frag) (C : Addr) (x qual : Str) (st : Stmt) : Prop := ∃ p f fd, DefM K x qual st [] f fd ∧ Cls K C ∧ PropOf K C x p f
section
variable {P : Program} {w : World} {K : PySem.W.Frag} {mg : Str → Option Value} {base : Heap}
theorem mkM {C : Addr} {x qual : Str} {st : Stmt} {N ps : List Str} {k : Nat} {sp : Sp} (d : MetAt K C x qual st) (S : FnScope N ps (defScope st))
    (hb : ∀ (kV doc pm : Value) (an : Option Addr) (cdv ct : Value) (us : List Value), us.length = ps.length → bindArgs (PySem.W.fnOf x qual (defArgs st) (defBody st) (defScope st) .none kV doc pm an cdv ct) ⟨us, []⟩ = pure (ps.zip us))
    (len : ∀ vs H Q E, sp vs H Q E → vs.length = ps.length)
    (body : ∀ (f : Addr) (cdv : Value) (A : Around) (outer : List Env) (s : Shared) (H : Hp) (vs : List V) (Q : VK) (E : XK), Room k (A.deeper (envOfC qual (defScope st) s.heap.objs.size f cdv)) → sp vs H Q E →
      ∃ t, PSs (cxOf C8.CX0 P w K mg base N qual (defScope st) f cdv A outer s H E).nox (defBody st) t ∧ t { nx := fun _ H' => Q .non H', rt := Q } (start N vs) H) : C8.Met P w K mg base (k + 1) C x sp [] := by
  obtain ⟨f, fd, F, hc, hm⟩ := d
  have F : FunD K x qual (defArgs st) (defBody st) (defScope st) [] [] f fd := F
  exact ⟨f, fd, ps, [], hc, hm, F.ok S len (fun cdv A outer s H vs Q E hr hsp => let ⟨t, h, q⟩ := body f cdv A outer s H vs Q E hr hsp; ⟨t, h.nox, q⟩), F.bindsN hb, .nil⟩
theorem mkP {C : Addr} {x qual : Str} {st : Stmt} {N ps : List Str} {k : Nat} {sp : Sp} (d : PrpAt K C x qual st) (S : FnScope N ps (defScope st))
    (hb : ∀ (kV doc pm : Value) (an : Option Addr) (cdv ct : Value) (us : List Value), us.length = ps.length → bindArgs (PySem.W.fnOf x qual (defArgs st) (defBody st) (defScope st) .none kV doc pm an cdv ct) ⟨us, []⟩ = pure (ps.zip us))
    (len : ∀ vs H Q E, sp vs H Q E → vs.length = ps.length)
    (body : ∀ (f : Addr) (cdv : Value) (A : Around) (outer : List Env) (s : Shared) (H : Hp) (vs : List V) (Q : VK) (E : XK), Room k (A.deeper (envOfC qual (defScope st) s.heap.objs.size f cdv)) → sp vs H Q E →
      ∃ t, PSs (cxOf C8.CX0 P w K mg base N qual (defScope st) f cdv A outer s H E).nox (defBody st) t ∧ t { nx := fun _ H' => Q .non H', rt := Q } (start N vs) H) : Prp P w K mg base (k + 1) C x sp := by
  obtain ⟨p, f, fd, F, hc, hm⟩ := d
  have F : FunD K x qual (defArgs st) (defBody st) (defScope st) [] [] f fd := F
  exact ⟨p, f, fd, ps, hc, hm, F.ok S len (fun cdv A outer s H vs Q E hr hsp => let ⟨t, h, q⟩ := body f cdv A outer s H vs Q E hr hsp; ⟨t, h.nox, q⟩), F.bindsN hb⟩
/-- called by keywords alone -/
theorem mkK {x : Str} {st : Stmt} {N ps ks : List Str} {k : Nat} {sp : Sp} {f : Addr} {fd : FuncData} (F : FunD K x x (defArgs st) (defBody st) (defScope st) [] [] f fd) (hm : mg x = some (.ref f)) (S : FnScope N ps (defScope st)) (g : {α : Type} → List α → List α)
    (hrel : ∀ {zs : List V} {ws : List Value}, Vals zs ws → Vals (g zs) (g ws))
    (hb : ∀ (kV doc pm : Value) (an : Option Addr) (cdv ct : Value) (ws : List Value), ws.length = ks.length → bindArgs (PySem.W.fnOf x x (defArgs st) (defBody st) (defScope st) .none kV doc pm an cdv ct) ⟨[], ks.zip ws⟩ = pure (ps.zip (g ws)))
    (len : ∀ vs H Q E, sp vs H Q E → vs.length = ps.length)
    (body : ∀ (f : Addr) (cdv : Value) (A : Around) (outer : List Env) (s : Shared) (H : Hp) (vs : List V) (Q : VK) (E : XK), Room k (A.deeper (envOfC x (defScope st) s.heap.objs.size f cdv)) → sp vs H Q E →
      ∃ t, PSs (cxOf C8.CX0 P w K mg base N x (defScope st) f cdv A outer s H E).nox (defBody st) t ∧ t { nx := fun _ H' => Q .non H', rt := Q } (start N vs) H) : CalK P w K mg base (k + 1) x sp 0 ks (fun _ zs => g zs) := by
  refine ⟨f, fd, ps, fun _ ws => g ws, F.ok S len (fun cdv A outer s H vs Q E hr hsp => let ⟨t, h, q⟩ := body f cdv A outer s H vs Q E hr hsp; ⟨t, h.nox, q⟩), hm, F.kp, fun s us ws _ l1 l2 => ?_, fun _ r => hrel r⟩
  cases us with
  | nil =>
    obtain ⟨oc, od, dV, kV, doc, pm, an, cdv, ct, osl, rfl, lk, hcd, hD, hK⟩ := F.ex
    rcases hD with ⟨_, rfl⟩ | ⟨e, _⟩
    · exact .of_eq (hb kV doc pm an cdv ct ws l2)
    · exact absurd rfl e
  | cons _ _ => cases l1
/-- a def with keyword-only parameters, under its name -/
def DefKw (K : PySem.W.Frag) (mg : Str → Option Value) (x : Str) (st : Stmt) (kwd : List (Str × V)) : Prop := ∃ (f : Addr) (fd : FuncData), FunD K x x (defArgs st) (defBody st) (defScope st) [] kwd f fd ∧ mg x = some (.ref f)
/-- called by positional values and all keyword-only ones -/
theorem mkKp {x : Str} {st : Stmt} {N ps ks : List Str} {kwd : List (Str × V)} {k n : Nat} {sp : Sp} (d : DefKw K mg x st kwd) (S : FnScope N ps (defScope st))
    (hb : ∀ (kV doc pm : Value) (an : Option Addr) (cdv ct : Value) (us ws : List Value), us.length = n → ws.length = ks.length → bindArgs (PySem.W.fnOf x x (defArgs st) (defBody st) (defScope st) .none kV doc pm an cdv ct) ⟨us, ks.zip ws⟩ = pure (ps.zip (us ++ ws)))
    (len : ∀ vs H Q E, sp vs H Q E → vs.length = ps.length)
    (body : ∀ (f : Addr) (cdv : Value) (A : Around) (outer : List Env) (s : Shared) (H : Hp) (vs : List V) (Q : VK) (E : XK), Room k (A.deeper (envOfC x (defScope st) s.heap.objs.size f cdv)) → sp vs H Q E →
      ∃ t, PSs (cxOf C8.CX0 P w K mg base N x (defScope st) f cdv A outer s H E).nox (defBody st) t ∧ t { nx := fun _ H' => Q .non H', rt := Q } (start N vs) H) : CalK P w K mg base (k + 1) x sp n ks (fun vs zs => vs ++ zs) := by
  obtain ⟨f, fd, F, hm⟩ := d
  refine ⟨f, fd, ps, fun us ws => us ++ ws, F.ok S len (fun cdv A outer s H vs Q E hr hsp => let ⟨t, h, q⟩ := body f cdv A outer s H vs Q E hr hsp; ⟨t, h.nox, q⟩), hm, F.kp, fun s us ws _ l1 l2 => ?_, fun r1 r2 => r1.append r2⟩
  obtain ⟨oc, od, dV, kV, doc, pm, an, cdv, ct, osl, rfl, lk, hcd, hD, hK⟩ := F.ex
  rcases hD with ⟨_, rfl⟩ | ⟨e, _⟩
  · exact .of_eq (hb kV doc pm an cdv ct us ws l1 l2)
  · exact absurd rfl e
/-- __init__ with defaults -/
theorem mkI {C f : Addr} {fd : FuncData} {x qual : Str} {st : Stmt} {N ps : List Str} {k : Nat} {sp : Sp} {dvs dvs' : List V} (F : DefM K "__init__" qual st dvs f fd) (M : Mk K C f) (hm : mg x = some (.ref C)) (S : FnScope N ps (defScope st))
    (hb : ∃ ds, Vals dvs' ds ∧ Binds K fd ps ds) (len : ∀ vs H Q E, sp vs H Q E → vs.length = ps.length)
    (body : ∀ (f : Addr) (cdv : Value) (A : Around) (outer : List Env) (s : Shared) (H : Hp) (vs : List V) (Q : VK) (E : XK), Room k (A.deeper (envOfC qual (defScope st) s.heap.objs.size f cdv)) → sp vs H Q E →
      ∃ t, PSs (cxOf C8.CX0 P w K mg base N qual (defScope st) f cdv A outer s H E).nox (defBody st) t ∧ t { nx := fun _ H' => Q .non H', rt := Q } (start N vs) H) : C8.Mak P w K mg base (k + 1) x C sp dvs' := by
  obtain ⟨ds, r, b⟩ := hb
  have F : FunD K "__init__" qual (defArgs st) (defBody st) (defScope st) dvs [] f fd := F
  exact ⟨f, fd, ps, ds, M, F.ok S len (fun cdv A outer s H vs Q E hr hsp => let ⟨t, h, q⟩ := body f cdv A outer s H vs Q E hr hsp; ⟨t, h.nox, q⟩), hm, b, r⟩
end
end Wk
set_option Elab.async false
set_option linter.all false
set_option maxRecDepth 100000
set_option maxHeartbeats 4000000
/-! Wk: a ledger of the heap's cells, and steps that keep it. -/
namespace Wk
open PySem PySem.Spec PyProof.Rows L2
/-- an address, and what is known of the object that stands there -/
abbrev Cell := Addr × (HO → Prop)
/-- the cells of L stand in H, each at an address of its own -/
structure Hd (H : Hp) (L : List Cell) : Prop where
  nd : (L.map Prod.fst).Nodup
  at_ : ∀ c ∈ L, ∃ o, H c.1 = some o ∧ c.2 o
def lstC (a : Addr) (xs : List V) : Cell := (a, fun o => o = .lst xs)
def tupC (a : Addr) (xs : List V) : Cell := (a, fun o => o = .tup xs)
def frzC (a : Addr) (xs : List V) : Cell := (a, fun o => ∃ q, o = .frz q (.lst xs))
def dctC (a : Addr) (kvs : List (Key × V)) : Cell := (a, fun o => o = .dK kvs)
def insC (a C : Addr) (fs : List (Str × V)) : Cell := (a, fun o => ∃ dx, o = .ins C dx fs)
def tblC (a : Addr) : Cell := (a, fun o => ∃ ps, o = .tbl ps ∧ TriplesOk ps.toList)
/-- L is c and M, in some order -/
inductive Pk : List Cell → Cell → List Cell → Prop
  | here {c : Cell} {L : List Cell} : Pk (c :: L) c L
  | there {x c : Cell} {L M : List Cell} : Pk L c M → Pk (x :: L) c (x :: M)
  | app {c : Cell} {Z L M : List Cell} : Pk L c M → Pk (Z ++ L) c (Z ++ M)
/-- L is the block Z and M -/
inductive PkB : List Cell → List Cell → List Cell → Prop
  | here {Z L : List Cell} : PkB (Z ++ L) Z L
  | there {x : Cell} {Z L M : List Cell} : PkB L Z M → PkB (x :: L) Z (x :: M)
  | app {Y Z L M : List Cell} : PkB L Z M → PkB (Y ++ L) Z (Y ++ M)
/-- L is A and R -/
inductive Spl : List Cell → List Cell → List Cell → Prop
  | nil {L : List Cell} : Spl L [] L
  | cons {c : Cell} {L M A R : List Cell} : Pk L c M → Spl M A R → Spl L (c :: A) R
  | blk {L M Z A R : List Cell} : PkB L Z M → Spl M A R → Spl L (Z ++ A) R
/-- A is some of L -/
inductive Sb : List Cell → List Cell → Prop
  | refl {L : List Cell} : Sb L L
  | nil {L : List Cell} : Sb [] L
  | cons {c : Cell} {L M A : List Cell} : Pk L c M → Sb A M → Sb (c :: A) L
  | drop {x : Cell} {A L : List Cell} : Sb A L → Sb A (x :: L)
  | blk {L M Z A : List Cell} : PkB L Z M → Sb A M → Sb (Z ++ A) L
  | left {Z L : List Cell} : Sb Z (Z ++ L)
  | right {A Z L : List Cell} : Sb A L → Sb A (Z ++ L)
theorem Pk.perm {L M : List Cell} {c : Cell} (h : Pk L c M) : L.Perm (c :: M) := by
  induction h with
  | here => exact .refl _
  | there _ ih => exact (List.Perm.cons _ ih).trans (List.Perm.swap _ _ _)
  | app _ ih => exact (List.Perm.append_left _ ih).trans List.perm_middle
theorem PkB.perm {L Z M : List Cell} (h : PkB L Z M) : L.Perm (Z ++ M) := by
  induction h with
  | here => exact .refl _
  | there _ ih => exact (List.Perm.cons _ ih).trans List.perm_middle.symm
  | @app Y Z L M _ ih => exact (List.Perm.append_left _ ih).trans (by rw [← List.append_assoc, ← List.append_assoc]; exact List.Perm.append_right _ List.perm_append_comm)
theorem Spl.perm {L A R : List Cell} (h : Spl L A R) : L.Perm (A ++ R) := by
  induction h with
  | nil => exact .refl _
  | cons p _ ih => exact p.perm.trans (List.Perm.cons _ ih)
  | blk p _ ih => exact p.perm.trans (by rw [List.append_assoc]; exact List.Perm.append_left _ ih)
theorem Hd.perm {H : Hp} {L M : List Cell} (h : Hd H L) (p : L.Perm M) : Hd H M := ⟨(p.map Prod.fst).nodup_iff.mp h.nd, fun c hc => h.at_ c (p.mem_iff.mpr hc)⟩
theorem Hd.tail {H : Hp} {c : Cell} {L : List Cell} (h : Hd H (c :: L)) : Hd H L := ⟨(List.nodup_cons.mp h.nd).2, fun d hd => h.at_ d (List.mem_cons_of_mem _ hd)⟩
theorem Hd.app {H : Hp} {A R : List Cell} (h : Hd H (A ++ R)) : Hd H R := by
  induction A with
  | nil => exact h
  | cons c A ih => exact ih h.tail
theorem Hd.left {H : Hp} {A R : List Cell} (h : Hd H (A ++ R)) : Hd H A := (h.perm List.perm_append_comm).app
theorem Hd.pk {H : Hp} {L M : List Cell} {c : Cell} (h : Hd H L) (p : Pk L c M) : Hd H (c :: M) := h.perm p.perm
theorem Hd.spl {H : Hp} {L A R : List Cell} (h : Hd H L) (p : Spl L A R) : Hd H (A ++ R) := h.perm p.perm
theorem Hd.sb {H : Hp} {L A : List Cell} (h : Hd H L) (s : Sb A L) : Hd H A := by
  have key : ∀ {A L : List Cell}, Sb A L → ∃ R, L.Perm (A ++ R) := by
    intro A L s
    induction s with
    | refl => exact ⟨[], by simp⟩
    | nil => exact ⟨_, List.Perm.refl _⟩
    | cons p _ ih => obtain ⟨R, q⟩ := ih; exact ⟨R, p.perm.trans (List.Perm.cons _ q)⟩
    | @drop x A L _ ih => obtain ⟨R, q⟩ := ih; exact ⟨x :: R, (List.Perm.cons x q).trans List.perm_middle.symm⟩
    | blk p _ ih => obtain ⟨R, q⟩ := ih; exact ⟨R, p.perm.trans (by rw [List.append_assoc]; exact List.Perm.append_left _ q)⟩
    | left => exact ⟨_, List.Perm.refl _⟩
    | @right A Z L _ ih => obtain ⟨R, q⟩ := ih; exact ⟨Z ++ R, (List.Perm.append_left Z q).trans (by rw [← List.append_assoc, ← List.append_assoc]; exact List.Perm.append_right _ List.perm_append_comm)⟩
  obtain ⟨R, q⟩ := key s
  exact (h.perm q).left
theorem Hd.get {H : Hp} {L : List Cell} {c : Cell} (h : Hd H L) (m : c ∈ L) : ∃ o, H c.1 = some o ∧ c.2 o := h.at_ c m
section
variable {H H2 : Hp} {L M : List Cell} {K : PySem.W.Frag} {a b C : Addr} {xs ys : List V} {fs : List (Str × V)} {kvs : List (Key × V)} {o : HO}
theorem Hd.lst (h : Hd H L) (m : lstC a xs ∈ L) : H a = some (.lst xs) := by obtain ⟨o, e, q⟩ := h.at_ _ m; cases (show o = .lst xs from q); exact e
theorem Hd.tup (h : Hd H L) (m : tupC a xs ∈ L) : H a = some (.tup xs) := by obtain ⟨o, e, q⟩ := h.at_ _ m; cases (show o = .tup xs from q); exact e
theorem Hd.dct (h : Hd H L) (m : dctC a kvs ∈ L) : H a = some (.dK kvs) := by obtain ⟨o, e, q⟩ := h.at_ _ m; cases (show o = .dK kvs from q); exact e
theorem Hd.ins (h : Hd H L) (m : insC a C fs ∈ L) : ∃ dx, H a = some (.ins C dx fs) := by obtain ⟨o, e, dx, q⟩ := h.at_ _ m; subst q; exact ⟨dx, e⟩
theorem Hd.sqL (h : Hd H L) (m : lstC a xs ∈ L) : SqL K H a xs := SqL.of (h.lst m)
theorem Hd.sqF (h : Hd H L) (m : frzC a xs ∈ L) : SqL K H a xs := by obtain ⟨o, e, q, z⟩ := h.at_ _ m; subst z; exact .inl (.inr ⟨q, e⟩)
theorem Hd.sqT (h : Hd H L) (m : tupC a xs ∈ L) : SqT K H a xs := SqT.of (h.tup m)
theorem Hd.tbl (h : Hd H L) (m : tblC a ∈ L) : GxR.TabG H a := by obtain ⟨o, e, ps, q, t⟩ := h.at_ _ m; subst q; exact ⟨ps, e, t⟩
theorem Hd.ne {c d : Cell} (h : Hd H (c :: L)) (m : d ∈ L) : d.1 ≠ c.1 := fun e => (List.nodup_cons.mp h.nd).1 (e ▸ List.mem_map_of_mem m)
theorem Hd.new {P : HO → Prop} {p : Addr} (h : Hd H L) (n : New H H2 p o) (q : P o) : Hd H2 ((p, P) :: L) := by
  refine ⟨List.nodup_cons.mpr ⟨fun z => ?_, h.nd⟩, fun c hc => ?_⟩
  · obtain ⟨c, hc, e⟩ := List.mem_map.mp z
    obtain ⟨u, hu, _⟩ := h.at_ c hc
    rw [e, n.no] at hu
    cases hu
  · rcases List.mem_cons.mp hc with rfl | hc
    · exact ⟨o, n.at_, q⟩
    · obtain ⟨u, hu, z⟩ := h.at_ c hc
      exact ⟨u, n.keep.at0 hu, z⟩
theorem Hd.newL {p : Addr} (h : Hd H L) (n : New H H2 p (.lst xs)) : Hd H2 (lstC p xs :: L) := h.new n rfl
theorem Hd.newT {p : Addr} (h : Hd H L) (n : New H H2 p (.tup xs)) : Hd H2 (tupC p xs :: L) := h.new n rfl
theorem Hd.newD {p : Addr} (h : Hd H L) (n : New H H2 p (.dK kvs)) : Hd H2 (dctC p kvs :: L) := h.new n rfl
/-- what a change of the cells S leaves of L -/
theorem Hd.upt {S : List Addr} (h : Hd H L) (u : Upt S H H2) (hs : ∀ c ∈ L, c.1 ∉ S) : Hd H2 L := ⟨h.nd, fun c hc => let ⟨o, e, q⟩ := h.at_ c hc; ⟨o, u _ _ (hs c hc) e, q⟩⟩
theorem Hd.upt0 (h : Hd H L) (u : Upt [] H H2) : Hd H2 L := h.upt u fun _ _ => by simp
theorem Hd.chg {c c' : Cell} (h : Hd H L) (p : Pk L c M) (g : Chg H H2 c.1 o) (e : c'.1 = c.1) (q : c'.2 o) : Hd H2 (c' :: M) := by
  have h1 := h.pk p
  have nd := List.nodup_cons.mp h1.nd
  refine ⟨List.nodup_cons.mpr ⟨by rw [e]; exact nd.1, nd.2⟩, fun d hd => ?_⟩
  rcases List.mem_cons.mp hd with rfl | hd
  · exact ⟨o, by rw [e]; exact g.at_, q⟩
  · obtain ⟨u, hu, z⟩ := h1.at_ d (List.mem_cons_of_mem _ hd)
    exact ⟨u, g.keep.at1 (h1.ne hd) hu, z⟩
theorem Hd.chgL (h : Hd H L) (p : Pk L (lstC a xs) M) (g : Chg H H2 a (.lst ys)) : Hd H2 (lstC a ys :: M) := h.chg (c := lstC a xs) p g rfl rfl
theorem Hd.chgD {kvs' : List (Key × V)} (h : Hd H L) (p : Pk L (dctC a kvs) M) (g : Chg H H2 a (.dK kvs')) : Hd H2 (dctC a kvs' :: M) := h.chg (c := dctC a kvs) p g rfl rfl
theorem Hd.chgI {dx : Addr} {fs' : List (Str × V)} (h : Hd H L) (p : Pk L (insC a C fs) M) (g : Chg H H2 a (.ins C dx fs')) : Hd H2 (insC a C fs' :: M) := h.chg (c := insC a C fs) p g rfl ⟨dx, rfl⟩
/-- cells that change by a contract over addresses -/
theorem Hd.put {S : List Addr} {A B R : List Cell} (h : Hd H (A ++ R)) (u : Upt S H H2) (hs : ∀ a ∈ S, a ∈ A.map Prod.fst) (hB : Hd H2 B) (hk : ∀ c ∈ B, c.1 ∈ A.map Prod.fst ∨ H c.1 = none) : Hd H2 (B ++ R) := by
  have hd : ∀ c ∈ R, c.1 ∉ A.map Prod.fst := fun c hc z => by
    have nd := h.nd
    rw [List.map_append] at nd
    exact (List.nodup_append.mp nd).2.2 _ z _ (List.mem_map_of_mem hc) rfl
  have hR : Hd H2 R := h.app.upt u fun c hc z => hd c hc (hs _ z)
  refine ⟨?_, fun c hc => (List.mem_append.mp hc).elim (hB.at_ c) (hR.at_ c)⟩
  rw [List.map_append]
  refine List.nodup_append.mpr ⟨hB.nd, hR.nd, fun x hx y hy e => ?_⟩
  subst e
  obtain ⟨c, hc, rfl⟩ := List.mem_map.mp hx
  obtain ⟨d, hdm, e⟩ := List.mem_map.mp hy
  rcases hk c hc with z | z
  · exact hd d hdm (e ▸ z)
  · obtain ⟨o, ho, _⟩ := h.app.at_ d hdm
    rw [e, z] at ho
    cases ho
theorem Hd.one {c : Cell} {o : HO} (e : H c.1 = some o) (q : c.2 o) : Hd H [c] := ⟨by simp, fun d hd => by rw [List.mem_singleton.mp hd]; exact ⟨o, e, q⟩⟩
theorem Hd.two {c d : Cell} {o u : HO} (e : H c.1 = some o) (q : c.2 o) (e' : H d.1 = some u) (q' : d.2 u) (n : c.1 ≠ d.1) : Hd H [c, d] := by
  refine ⟨by simp [n], fun x hx => ?_⟩
  rcases List.mem_cons.mp hx with rfl | hx
  · exact ⟨o, e, q⟩
  · rw [List.mem_singleton.mp hx]; exact ⟨u, e', q'⟩
/-- data -/
theorem Dn.lt {n : Nat} {ds : List PyData} (h : Hd H L) (m : lstC a xs ∈ L) (hl : xs.length ≤ 100000) (p : Paired (Dn K [] H n) xs ds) : Dn K [] H (n + 1) (.ref a) (.list ds) := Dn.lst (h.sqL m) (by simp) hl p
theorem Dn.tp {n : Nat} {ds : List PyData} (h : Hd H L) (m : tupC a xs ∈ L) (hl : xs.length ≤ 100000) (p : Paired (Dn K [] H n) xs ds) : Dn K [] H (n + 1) (.ref a) (.tuple ds) := Dn.tup (h.sqT m) (by simp) hl p
end
/-! ### steps -/
section
variable {K : PySem.W.Frag} {σ : L2.St} {H : Hp} {Q : VK} {L M : List Cell} {P : Hp → Prop} {D : Ends} {a b p C : Addr} {xs ys : List V} {i : Int} {n : Nat} {v x y : V} {f : Str} {fs : List (Str × V)} {kvs : List (Key × V)} {E : XK} {sp : Sp} {dvs : List V}
theorem g_lst (hh : Hd H L) (hs : n ≤ sizeLine) (q : ∀ p H2, Hd H2 (lstC p xs :: L) → Q (.ref p) H2) : KNew n H (.lst xs) Q := w_new hs fun p H2 n2 => q p H2 (hh.newL n2)
theorem g_tup (hh : Hd H L) (hs : n ≤ sizeLine) (q : ∀ p H2, Hd H2 (tupC p xs :: L) → Q (.ref p) H2) : KNew n H (.tup xs) Q := w_new hs fun p H2 n2 => q p H2 (hh.newT n2)
theorem g_dict (hh : Hd H L) (q : ∀ p H2, Hd H2 (dctC p [] :: L) → Q (.ref p) H2) : tDNewK σ H Q := w_dnew fun p H2 n2 => q p H2 (hh.newD n2)
theorem g_set (hh : Hd H L) (k : Pk L (lstC p xs) M) (hn : ixN xs.length i = some n) (q : ∀ H2, Hd H2 (lstC p (xs.set n v) :: M) → P H2) : rSetL (.ref p) (.int i) v H P := w_setI ((hh.pk k).lst (List.mem_cons_self ..)) hn fun H2 g => q H2 (hh.chgL k g)
theorem g_append (hh : Hd H L) (k : Pk L (lstC p xs) M) (hz : xs.length < sizeLine) (q : ∀ H2, Hd H2 (lstC p (xs ++ [y]) :: M) → Q .non H2) : KBM K "list" rAppend (tCons (tC y) tNil) σ (.ref p) H Q := by
  have e := (hh.pk k).lst (List.mem_cons_self ..)
  exact w_kbm (ty_list (SqL.of e)) (w_append e hz fun H2 g => q H2 (hh.chgL k g))
theorem g_app (hh : Hd H L) (k : Pk L (lstC p xs) M) (hz : xs.length < sizeLine) (q : ∀ H2, Hd H2 (lstC p (xs ++ [y]) :: M) → Q .non H2) : rAppend (.ref p) [y] H Q := w_append ((hh.pk k).lst (List.mem_cons_self ..)) hz fun H2 g => q H2 (hh.chgL k g)
theorem g_kbm {g : V → List V → Hp → VK → Prop} {t : TA} (hh : Hd H L) (m : lstC p xs ∈ L) (h : t σ H fun zs H2 => g (.ref p) zs H2 Q) : KBM K "list" g t σ (.ref p) H Q := w_kbm (ty_list (hh.sqL m)) h
theorem g_kbm0 {g : V → List V → Hp → VK → Prop} (hh : Hd H L) (m : lstC p xs ∈ L) (h : g (.ref p) [] H Q) : KBM0 K "list" g (.ref p) H Q := w_kbm0 (ty_list (hh.sqL m)) h
theorem g_popAt (hh : Hd H L) (k : Pk L (lstC p xs) M) (hn : n < xs.length) (hb : n < 2 ^ 62) (hv : xs[n]? = some y) (q : ∀ H2, Hd H2 (lstC p (xs.eraseIdx n) :: M) → Q y H2) : rPopAt (.ref p) [.int (n : Int)] H Q := w_popAt ((hh.pk k).lst (List.mem_cons_self ..)) hn hb hv fun H2 g => q H2 (hh.chgL k g)
theorem g_listL (hh : Hd H L) (h : SqL K H p ys) (q : ∀ l H2, Hd H2 (lstC l ys :: L) → Q (.ref l) H2) : CB (rListOf K) [.ref p] H Q := c_listL h fun l H2 n2 => q l H2 (hh.newL n2)
theorem g_listT (hh : Hd H L) (h : SqT K H p ys) (q : ∀ l H2, Hd H2 (lstC l ys :: L) → Q (.ref l) H2) : CB (rListOf K) [.ref p] H Q := c_listT h fun l H2 n2 => q l H2 (hh.newL n2)
theorem g_tupL (hh : Hd H L) (h : SqL K H p ys) (q : ∀ l H2, Hd H2 (tupC l ys :: L) → Q (.ref l) H2) : CB (rTupOf K) [.ref p] H Q := c_tupL h fun l H2 n2 => q l H2 (hh.newT n2)
theorem g_fld (hh : Hd H L) (m : insC a C fs ∈ L) (c : Cls K C) (n : NoAttr K C f) (l : fs.lookup f = some v) (q : Q v H) : KFld K f (.ref a) H Q := let ⟨_, e⟩ := hh.ins m; w_kfld e c n l q
theorem g_sfld (hh : Hd H L) (k : Pk L (insC a C fs) M) (c : Cls K C) (n : NoAttr K C f) (hl : fs.length < 1000) (q : ∀ H2, Hd H2 (insC a C (putF f y fs) :: M) → D.nx σ H2) : KSFld K f D σ y (.ref a) H :=
  let ⟨_, e⟩ := (hh.pk k).ins (List.mem_cons_self ..)
  w_ksfld e c n hl fun H2 g => q H2 (hh.chgI k g)
theorem g_meth {m : Str} {t : TA} (hh : Hd H L) (k : insC a C fs ∈ L) (l : fs.lookup m = none) (h : t σ H fun vs H2 => sp (.ref a :: (vs ++ dvs)) H2 Q E) : KMeth C m sp dvs E t σ Q (.ref a) H := let ⟨_, e⟩ := hh.ins k; w_kmeth e l h
theorem g_prop (hh : Hd H L) (k : insC a C fs ∈ L) (h : sp [.ref a] H Q E) : KProp C sp E Q (.ref a) H := let ⟨_, e⟩ := hh.ins k; w_kprop e h
theorem g_make {vs : List V} (hh : Hd H L) (q : ∀ x H2, Hd H2 (insC x C [] :: L) → sp (.ref x :: (vs ++ dvs)) H2 (fun v H2 => v = .non ∧ Q (.ref x) H2) E) : KMake C sp dvs E Q vs H := fun x dx hx hdx ne => by
  have u : Upt [] H (upd (upd H dx (.own x)) x (.ins C dx [])) := fun b o _ e => by rw [upd_ne (ne_of_none e hx), upd_ne (ne_of_none e hdx)]; exact e
  refine q x _ ((hh.new (H2 := upd (upd H dx (.own x)) x (.ins C dx [])) (p := x) (o := .ins C dx []) (P := fun o => ∃ dx, o = .ins C dx []) ⟨hx, upd_same, u⟩ ⟨dx, rfl⟩))
theorem g_cat (hh : Hd H L) (h1 : lstC a xs ∈ L) (h2 : lstC b ys ∈ L) (hz : xs.length + ys.length ≤ sizeLine) (q : ∀ p H2, Hd H2 (lstC p (xs ++ ys) :: L) → Q (.ref p) H2) : rCat (.ref a) (.ref b) H Q := w_cat (hh.lst h1) (hh.lst h2) hz fun p H2 n2 => q p H2 (hh.newL n2)
theorem g_rep {k : Int} (hh : Hd H L) (h1 : lstC a xs ∈ L) (h2 : -(2 ^ 63) ≤ k) (h3 : k < 2 ^ 63) (hz : xs.length * k.toNat ≤ sizeLine) (q : ∀ p H2, Hd H2 (lstC p (List.replicate k.toNat xs).flatten :: L) → Q (.ref p) H2) : rRep (.ref a) (.int k) H Q := w_rep (hh.lst h1) h2 h3 hz fun p H2 n2 => q p H2 (hh.newL n2)
theorem g_ixI {ns : List Int} {k : Nat} (hh : Hd H L) (m : lstC p (ns.map V.int) ∈ L) (hk : k < ns.length) (q : ∀ z, ns[k]? = some z → Q (.int z) H) : rIxL K (.ref p) (.int k) H Q :=
  w_ixL (hh.sqL m) (atI_nat (by rw [List.getElem?_map, List.getElem?_eq_getElem hk]; rfl)) (q _ (List.getElem?_eq_getElem hk))
theorem g_ixIT {ns : List Int} {k : Nat} (hh : Hd H L) (m : tupC p (ns.map V.int) ∈ L) (hk : k < ns.length) (q : ∀ z, ns[k]? = some z → Q (.int z) H) : rIxT K (.ref p) (.int k) H Q :=
  w_ixT (hh.sqT m) (atI_nat (by rw [List.getElem?_map, List.getElem?_eq_getElem hk]; rfl)) (q _ (List.getElem?_eq_getElem hk))
theorem g_setI {ns : List Int} {k : Nat} {z : Int} (hh : Hd H L) (m : Pk L (lstC p (ns.map V.int)) M) (hk : k < ns.length) (q : ∀ H2, Hd H2 (lstC p ((ns.set k z).map V.int) :: M) → P H2) : rSetL (.ref p) (.int k) (.int z) H P :=
  g_set hh m (n := k) (by rw [List.length_map]; exact Evl.ixN_nat hk) fun H2 h2 => q H2 (by rw [List.map_set]; exact h2)
theorem g_inT {r : Bool} (hh : Hd H L) (h : tupC p xs ∈ L) (fx : flatV x = true) (fs : xs.all flatV = true) (e : inV x xs = r) (q : Q (.bl r) H) : rIn K false x (.ref p) H Q := w_inT (hh.tup h) fx fs e q
theorem g_kapp (hh : Hd H L) (k : Pk L (lstC p xs) M) (hz : xs.length < sizeLine) (q : ∀ H2, Hd H2 (lstC p (xs ++ [y]) :: M) → P H2) : KApp p P y H := w_kapp ((hh.pk k).lst (List.mem_cons_self ..)) hz fun H2 g => q H2 (hh.chgL k g)
theorem g_isiT2 {t A B : String} {q1 q2 r : Bool} {tp : Addr} (hh : Hd H L) (ht : tupC tp [.ty A, .ty B] ∈ L) (ty : TyX K H x (.type t)) (ha : kitB t A = some q1) (hb : kitB t B = some q2) (hr : (q1 || q2) = r) (q : Q (.bl r) H) : CB (rIsiT K) [x, .ref tp] H Q := c_isiT2 (hh.tup ht) ty ha hb hr q
end
section
variable {K : PySem.W.Frag} {σ : L2.St} {H : Hp} {Q : VK} {L : List Cell} {te : TE} {n m : Nat} {j : Int} {a : Addr} {xs : List V}
theorem g_lcR (hh : Hd H L) (hj : j = (m : Int)) (hb : m ≤ 1000000) (Pv : Nat → Addr → Hp → Prop) (h0 : ∀ D H1, Hd H1 (lstC D [] :: L) → Pv 0 D H1)
    (hs : ∀ (i : Nat) D H, i < m → Pv i D H → te ((σ.set n none).set n (some (.int (i : Int)))) H (KApp D (Pv (i + 1) D)))
    (hd : ∀ D H, Pv m D H → Q (.ref D) H) : KLcR (gName n) tYes te [n] σ Q [.int j] H := lc_R hj hb Pv (fun D H1 nn => h0 D H1 (hh.newL nn)) hs hd
theorem g_lcL (hh : Hd H L) (h : SqL K H a xs) (Pv : Nat → Addr → Hp → Prop) (h0 : ∀ D H1, Hd H1 (lstC D [] :: L) → Pv 0 D H1) (hl : ∀ i D H, i ≤ xs.length → Pv i D H → SqL K H a xs)
    (hs : ∀ (i : Nat) x D H, xs[i]? = some x → Pv i D H → te ((σ.set n none).set n (some x)) H (KApp D (Pv (i + 1) D)))
    (hd : ∀ D H, Pv xs.length D H → Q (.ref D) H) : KLcL K (gName n) tYes te [n] σ Q (.ref a) H := lc_L h Pv (fun D H1 nn => h0 D H1 (hh.newL nn)) hl hs hd
end
/-! ### data as blocks of cells -/
/-- the block Z holds the datum d at v -/
def Zc (K : PySem.W.Frag) (Z : List Cell) (n : Nat) (v : V) (d : PyData) : Prop := ∀ H, Hd H Z → Dn K [] H n v d
theorem same_nodup (A : List Addr) : ∃ B : List Addr, B.Nodup ∧ ∀ a, a ∈ A ↔ a ∈ B := by
  induction A with
  | nil => exact ⟨[], List.nodup_nil, fun a => Iff.rfl⟩
  | cons x A ih =>
    obtain ⟨B, h1, h2⟩ := ih
    by_cases h : x ∈ B
    · exact ⟨B, h1, fun a => by rw [List.mem_cons, h2]; exact ⟨fun z => z.elim (fun e => e ▸ h) id, .inr⟩⟩
    · exact ⟨x :: B, List.nodup_cons.mpr ⟨h, h1⟩, fun a => by rw [List.mem_cons, List.mem_cons, h2]⟩
section
variable {K : PySem.W.Frag} {S : List Addr} {H H' : Hp} {a : Addr} {xs : List V}
/-- H' has what H has at A -/
def Agr (A : List Addr) (H H' : Hp) : Prop := ∀ b ∈ A, ∀ o, H b = some o → H' b = some o
theorem SqL.addr (h : SqL K H a xs) : ∃ A : List Addr, (∀ b ∈ A, b = a ∧ ∃ o, H b = some o) ∧ ∀ H', Agr A H H' → SqL K H' a xs := by
  rcases h with (h | ⟨q, h⟩) | h
  · exact ⟨[a], fun b hb => by rw [List.mem_singleton.mp hb]; exact ⟨rfl, _, h⟩, fun H' e => .inl (.inl (e a (List.mem_singleton.mpr rfl) _ h))⟩
  · exact ⟨[a], fun b hb => by rw [List.mem_singleton.mp hb]; exact ⟨rfl, _, h⟩, fun H' e => .inl (.inr ⟨q, e a (List.mem_singleton.mpr rfl) _ h⟩)⟩
  · exact ⟨[], fun b hb => absurd hb (List.not_mem_nil), fun H' _ => .inr h⟩
theorem SqT.addr (h : SqT K H a xs) : ∃ A : List Addr, (∀ b ∈ A, b = a ∧ ∃ o, H b = some o) ∧ ∀ H', Agr A H H' → SqT K H' a xs := by
  rcases h with (h | ⟨q, h⟩) | h
  · exact ⟨[a], fun b hb => by rw [List.mem_singleton.mp hb]; exact ⟨rfl, _, h⟩, fun H' e => .inl (.inl (e a (List.mem_singleton.mpr rfl) _ h))⟩
  · exact ⟨[a], fun b hb => by rw [List.mem_singleton.mp hb]; exact ⟨rfl, _, h⟩, fun H' e => .inl (.inr ⟨q, e a (List.mem_singleton.mpr rfl) _ h⟩)⟩
  · exact ⟨[], fun b hb => absurd hb (List.not_mem_nil), fun H' _ => .inr h⟩
theorem paired_addr {n : Nat} (F : ∀ v d, Dn K S H n v d → ∃ A : List Addr, (∀ b ∈ A, b ∉ S ∧ ∃ o, H b = some o) ∧ ∀ H', Agr A H H' → Dn K [] H' n v d) : ∀ {xs : List V} {ds : List PyData}, Paired (Dn K S H n) xs ds →
    ∃ A : List Addr, (∀ b ∈ A, b ∉ S ∧ ∃ o, H b = some o) ∧ ∀ H', Agr A H H' → Paired (Dn K [] H' n) xs ds
  | _, _, .nil => ⟨[], fun b hb => absurd hb (List.not_mem_nil), fun _ _ => .nil⟩
  | _, _, .cons r t => by
    obtain ⟨A, h1, h2⟩ := F _ _ r
    obtain ⟨B, h3, h4⟩ := paired_addr F t
    refine ⟨A ++ B, fun b hb => (List.mem_append.mp hb).elim (h1 b) (h3 b), fun H' e => .cons (h2 H' fun b hb => e b (List.mem_append_left _ hb)) (h4 H' fun b hb => e b (List.mem_append_right _ hb))⟩
theorem Dn.addr : ∀ {n : Nat} {v : V} {d : PyData}, Dn K S H n v d → ∃ A : List Addr, (∀ b ∈ A, b ∉ S ∧ ∃ o, H b = some o) ∧ ∀ H', Agr A H H' → Dn K [] H' n v d
  | 0, _, _, h => ⟨[], fun b hb => absurd hb (List.not_mem_nil), fun _ _ => h⟩
  | n + 1, v, d, h => by
    rcases h with h | ⟨a, xs, ds, e1, e2, ha, hq, hl, p⟩ | ⟨a, xs, ds, e1, e2, ha, hq, hl, p⟩
    · exact ⟨[], fun b hb => absurd hb (List.not_mem_nil), fun _ _ => .inl h⟩
    · obtain ⟨A, h1, h2⟩ := SqL.addr hq
      obtain ⟨B, h3, h4⟩ := paired_addr (fun v d => Dn.addr) p
      exact ⟨A ++ B, fun b hb => (List.mem_append.mp hb).elim (fun z => ⟨(h1 b z).1 ▸ ha, (h1 b z).2⟩) (h3 b), fun H' e => .inr (.inl ⟨a, xs, ds, e1, e2, by simp, h2 H' fun b hb => e b (List.mem_append_left _ hb), hl, h4 H' fun b hb => e b (List.mem_append_right _ hb)⟩)⟩
    · obtain ⟨A, h1, h2⟩ := SqT.addr hq
      obtain ⟨B, h3, h4⟩ := paired_addr (fun v d => Dn.addr) p
      exact ⟨A ++ B, fun b hb => (List.mem_append.mp hb).elim (fun z => ⟨(h1 b z).1 ▸ ha, (h1 b z).2⟩) (h3 b), fun H' e => .inr (.inr ⟨a, xs, ds, e1, e2, by simp, h2 H' fun b hb => e b (List.mem_append_left _ hb), hl, h4 H' fun b hb => e b (List.mem_append_right _ hb)⟩)⟩
theorem Dn.chunk {n : Nat} {v : V} {d : PyData} (h : Dn K S H n v d) : ∃ Z : List Cell, Hd H Z ∧ (∀ c ∈ Z, c.1 ∉ S) ∧ Zc K Z n v d := by
  obtain ⟨A, h1, h2⟩ := h.addr
  obtain ⟨B, h3, h4⟩ := same_nodup A
  refine ⟨B.map fun a => (a, fun o => H a = some o), ⟨?_, fun c hc => ?_⟩, fun c hc => ?_, fun H' hh => h2 H' fun b hb o ho => ?_⟩
  · rw [List.map_map]
    exact (List.map_id B).symm ▸ h3
  · obtain ⟨a, ha, rfl⟩ := List.mem_map.mp hc
    obtain ⟨o, ho⟩ := (h1 a ((h4 a).mpr ha)).2
    exact ⟨o, ho, ho⟩
  · obtain ⟨a, ha, rfl⟩ := List.mem_map.mp hc
    exact (h1 a ((h4 a).mpr ha)).1
  · obtain ⟨u, e1, e2⟩ := hh.at_ _ (List.mem_map.mpr ⟨b, (h4 b).mp hb, rfl⟩)
    have e3 : H b = some u := e2
    rw [ho] at e3
    cases e3
    exact e1
theorem Hd.join {Z L : List Cell} (h1 : Hd H Z) (h2 : Hd H L) (d : ∀ c ∈ Z, c.1 ∉ L.map Prod.fst) : Hd H (Z ++ L) := by
  refine ⟨?_, fun c hc => (List.mem_append.mp hc).elim (h1.at_ c) (h2.at_ c)⟩
  rw [List.map_append]
  refine List.nodup_append.mpr ⟨h1.nd, h2.nd, fun x hx y hy e => ?_⟩
  subst e
  obtain ⟨c, hc, rfl⟩ := List.mem_map.mp hx
  exact d c hc hy
theorem Zc.up {Z : List Cell} {n m : Nat} {v : V} {d : PyData} (z : Zc K Z n v d) (h : n ≤ m) : Zc K Z m v d := fun H hh => Dn.up h (z H hh)
theorem Zc.sb {Z Y : List Cell} {n : Nat} {v : V} {d : PyData} (z : Zc K Z n v d) (s : Sb Z Y) : Zc K Y n v d := fun H hh => z H (hh.sb s)
theorem Dn.tup_inv {n : Nat} {v : V} {ds : List PyData} (h : Dn K S H (n + 1) v (.tuple ds)) : ∃ a xs, v = .ref a ∧ SqT K H a xs ∧ xs.length ≤ 100000 ∧ Paired (Dn K S H n) xs ds := by
  rcases h with h | ⟨a, xs, ds', e1, e2, ha, hq, hl, p⟩ | ⟨a, xs, ds', e1, e2, ha, hq, hl, p⟩
  · cases h
  · cases e2
  · cases e2; exact ⟨a, xs, e1, hq, hl, p⟩
theorem Dn.lst_inv {n : Nat} {v : V} {ds : List PyData} (h : Dn K S H (n + 1) v (.list ds)) : ∃ a xs, v = .ref a ∧ SqL K H a xs ∧ xs.length ≤ 100000 ∧ Paired (Dn K S H n) xs ds := by
  rcases h with h | ⟨a, xs, ds', e1, e2, ha, hq, hl, p⟩ | ⟨a, xs, ds', e1, e2, ha, hq, hl, p⟩
  · cases h
  · cases e2; exact ⟨a, xs, e1, hq, hl, p⟩
  · cases e2
theorem Dn.int_inv {v : V} {i : Int} : ∀ {n : Nat}, Dn K S H n v (.int i) → v = .int i
  | 0, h => by cases h; rfl
  | n + 1, h => by
    rcases h with h | ⟨a, xs, ds', e1, e2, _⟩ | ⟨a, xs, ds', e1, e2, _⟩
    · cases h; rfl
    · cases e2
    · cases e2
theorem Dn.str_inv {v : V} {z : Str} : ∀ {n : Nat}, Dn K S H n v (.str z) → v = .str z
  | 0, h => by cases h; rfl
  | n + 1, h => by
    rcases h with h | ⟨a, xs, ds', e1, e2, _⟩ | ⟨a, xs, ds', e1, e2, _⟩
    · cases h; rfl
    · cases e2
    · cases e2
theorem Paired.ints_inv {n : Nat} : ∀ {ns : List Int} {xs : List V}, Paired (Dn K S H n) xs (ns.map PyData.int) → xs = ns.map V.int
  | [], _, .nil => rfl
  | _ :: _, _, .cons r t => by rw [Dn.int_inv r, Paired.ints_inv t]; rfl
end
end Wk
set_option Elab.async false
set_option linter.all false
set_option maxRecDepth 100000
set_option maxHeartbeats 4000000
/-! Wk: short loops unrolled, further steps over the ledger. -/
namespace Wk
open PySem PySem.Spec PyProof.Rows L2
section
variable {g : TG} {tb : TS} {D : Ends} {σ : L2.St} {H : Hp}
/-- the rest of a loop over a text, sign by sign -/
def unrS (g : TG) (tb : TS) (D : Ends) : List Nat → L2.St → Hp → Prop
  | [], σ, H => D.nx σ H
  | c :: cs, σ, H => g (.str ⟨#[c]⟩) σ H fun σ2 H2 => tb { D with nx := unrS g tb D cs, ct := unrS g tb D cs, bk := D.nx } σ2 H2
theorem w_unr {x : Str} (h : unrS g tb D x.cps.toList σ H) : KForS g tb D σ (.str x) H := by
  refine ⟨x, rfl, fun i m σ H => unrS g tb D (x.cps.toList.drop i) σ H ∧ m = x.cps.size - i, ⟨_, h, rfl⟩, ?_⟩
  rintro i m σ H ⟨h1, rfl⟩
  cases e : x.cps.toList.drop i with
  | nil =>
    rw [e] at h1
    refine .inl ⟨?_, h1⟩
    have l := congrArg List.length e
    rw [List.length_drop, Array.length_toList, List.length_nil] at l
    show x.cps.size ≤ i
    omega
  | cons c r =>
    rw [e] at h1
    have l := congrArg List.length e
    rw [List.length_drop, Array.length_toList, List.length_cons] at l
    have hi : i < x.cps.size := by omega
    have er : x.cps.toList.drop (i + 1) = r := by rw [← List.drop_drop, e]; rfl
    have ec : x.cps[i]? = some c := by
      have z : x.cps.toList[i]? = some c := by
        have := List.head?_drop (l := x.cps.toList) (i := i)
        rw [e] at this
        exact this.symm
      rw [← Array.getElem?_toList]
      exact z
    refine .inr ⟨hi, unrS g tb D r, fun σ' H' n => ⟨x.cps.size - (i + 1), by omega, er ▸ n, rfl⟩, ?_⟩
    rintro y H' ⟨rfl, c', hc', rfl⟩
    rw [ec] at hc'
    cases hc'
    exact h1
end
end Wk
set_option Elab.async false
set_option linter.all false
set_option maxRecDepth 100000
set_option maxHeartbeats 4000000
/-! Wk: own exception classes over an own class over ValueError: made, raised, caught. -/
namespace Wk
open PySem PySem.Spec PyProof.Rows L2
section
variable {X : Cx} {e : Expr} {es : List Expr} {ta : TA} {p1 p2 pos : Pos}
/-- B.__init__(self, ..), B an own class that leaves __init__ to ValueError -/
theorem pe_weinit {x : Str} {B : Addr} {mc : Value} {pl : Sem Bool} (hg : Gl X x) (hm : X.mg x = some (.ref B)) (hsp : PySem.W.specialIn X.K (.ref B) "__getattribute__" = some (some (.builtin "type.__getattribute__"))) (hr : PySem.W.readsIn X.K B mc = true)
    (vV : PySem.W.findCls X.K (.ref B) mc "__init__" = some (.val (.builtin "ValueError.__init__"))) (ha : PA X (e :: es) ta)
    (hc : eval (.Call (.Attribute (.Name x p1) "__init__" p2) (e :: es) [] pos) X.env = (do
      let ov ← eval (.Name x p1) X.env
      standAt p2.atName
      let (f, first) ← holding [ov] (getMethod ov "__init__" pl)
      callWith pos f first (backTo pos (starEach (e :: es) X.env)) (backToKw pos (keywordEach [] X.env))) := by rfl) (hdb : (x == ("__debug__" : Str)) = false := by decide)
    (he : starEach (e :: es) X.env = (false, eval e X.env) :: starEach es X.env := by rfl) (hpl : (backTo pos (starEach es X.env)).any (·.1) = false := by rfl) :
    PE X (.Call (.Attribute (.Name x p1) "__init__" p2) (e :: es) [] pos) (tVeI X.K ta) := by
  refine ⟨fun pins s σ H Q I h => ?_⟩
  refine PySem.W.methodCall_KW (ld_glob I hg hm ?_ hdb) hc
  refine PySem.W.method_cls I.kIn hsp (PySem.W.cls_value I.kIn hr vV (by decide +kernel) ?_)
  show wpAny _ _ (callWith pos (Value.builtin "ValueError.__init__") [] (backTo pos (starEach (e :: es) X.env)) []) _ _ _
  refine PyProof.Rows.callWith_method1 (thn (ha.run pos pins _ σ H _ (I.tok _) h) fun us s1 ⟨vs, H1, I1, r1, a, C, ws, ev, hl, T, ea, q⟩ => ?_) he hpl
  subst ev
  cases r1 with
  | @cons _ u0 _ ur ra rw' =>
    obtain rfl : u0 = Value.ref a := ra
    have hlen : ur.length ≤ sizeLine := by
      rw [← Paired.length rw', sizeLine_eq]
      omega
    exact oinit_ok T I1 ea hlen fun s' J => ⟨.non, H1, J, rfl, q⟩
end

/-! ### an own class is called: its __init__ is walked; the new error's context is None -/
section
variable {X : Cx} {e : Expr} {es : List Expr} {ta : TA} {p pos : Pos}
theorem pmk_oexN {CX : CXT} {x : Str} {C fI : Addr} {k : Nat} {fd : FuncData} {ps : List Str} {sp : Sp} {ds : List Value} {dvs : List V} (T : OexC X.K C) (iC : PySem.W.findIn X.K (.ref C) "__init__" = some (some (.ref fI)))
    (tI : PySem.W.typeIn X.K (.ref fI) = some (.type "function")) (F1 : FnOk X.prog X.w X.K X.mg X.base CX k fI fd ps sp) (hr : Room (k + 1) X.A) (hb : Binds X.K fd ps ds) (hd : Vals dvs ds) (hx : Passes CX X (fun _ _ _ => False))
    (hg : Gl X x) (hm : X.mg x = some (.ref C)) (ha : PA X (e :: es) ta) (hdb : (x == ("__debug__" : Str)) = false := by decide)
    (he : starEach (e :: es) X.env = (false, eval e X.env) :: starEach es X.env := by rfl) (hpl : (backTo pos (starEach es X.env)).any (·.1) = false := by rfl) :
    L2N.PMk X (.Call (.Name x p) (e :: es) [] pos) (tMkO C sp dvs ta) := by
  intro pins s σ H Q I h
  obtain ⟨nm, q, N, bs, bm, sn, sub, ab, col, dd, k0, k1, k2, k3, k5, hC, hbm⟩ := T.cls
  refine wpAny_Call_Name_kw (ld_glob I hg hm ?_ hdb)
  refine PySem.W.callWith_K (h₀ := X.base) I.ok.mod.kin T.kC (thn (ha.run pos pins s σ H _ I h) fun us s1 ⟨vs, H1, I1, r1, hz, q1⟩ => ⟨I1.kIn, ?_⟩) he hpl
  show wpAny _ _ (call (.ref C) us) _ _ _
  obtain ⟨hp, g, dr, tk, os⟩ := s1
  have above : hp.objs.size ≤ hp.objs.size + 1 := Nat.le_add_right _ 1
  have free : H1 (hp.objs.size + 1) = none := I1.hok.fresh above
  have stay : ∀ b o, hp.get? b = some o → ((hp.push (PySem.W.kdv_tup us)).push (PySem.HandSPX.excO C hp.objs.size)).get? b = some o :=
    fun b o z => Heap.get?_push_of_some _ (Heap.get?_push_of_some _ z)
  have new : ((hp.push (PySem.W.kdv_tup us)).push (PySem.HandSPX.excO C hp.objs.size)).get? (hp.objs.size + 1) = some (PySem.HandSPX.excO C hp.objs.size) := by heap_get
  have I2 : Inv X pins σ (upd H1 (hp.objs.size + 1) (exo (hp.objs.size + 1) C none)) ⟨(hp.push (PySem.W.kdv_tup us)).push (PySem.HandSPX.excO C hp.objs.size), g, dr, tk, os⟩ :=
    I1.laid (t' := tk) (a := hp.objs.size + 1) (o := exo (hp.objs.size + 1) C none) (h' := (hp.push (PySem.W.kdv_tup us)).push (PySem.HandSPX.excO C hp.objs.size)) stay above (exo_ok new)
  have body := q1 (hp.objs.size + 1) free
  have rel : Vals (V.ref (hp.objs.size + 1) :: (vs ++ dvs)) (Value.ref (hp.objs.size + 1) :: (us ++ ds)) := .cons rfl (r1.append hd)
  have many : (Value.ref (hp.objs.size + 1) :: us ++ ds).length = ps.length := by
    have z := rel.length
    rw [F1.len _ _ _ _ body] at z
    exact z.symm
  have short : us.length ≤ sizeLine := by
    have z := Paired.length r1
    have z2 := sizeLine_eq
    omega
  refine wpAny_call (PySem.HandSPX.call_own F.excBase_ValueError (fun Y => PySem.HandSPX.refsVE_contains Y bm hbm) (I1.kIn _ _ hC) (PySem.W.looks_findIn I1.kIn iC) (fun self => PySem.W.bind_fn I1.kIn self tI) short
    (codeAny_mono (F1.run _ X.stack _ _ ⟨Value.ref (hp.objs.size + 1) :: us, []⟩ (Value.ref (hp.objs.size + 1) :: (us ++ ds)) _ _ (fun _ _ _ => False) (hr.make C us []) (I2.env0.make C us []) (hb _ (Value.ref (hp.objs.size + 1) :: us) I2.kIn many) rel body) fun r s' out => ?_))
  cases r with
  | error er => exact hx pins σ _ _ er s' I2 out
  | ok fl =>
    cases fl with
    | next => exact False.elim out
    | brk => exact False.elim out
    | cont => exact False.elim out
    | ret u =>
      obtain ⟨v, H2, os2, bare2, un2, hok2, rv, ev, d, fs, ea, ed, hd1, q2⟩ := out
      subst ev
      obtain ⟨h2, g2, d2, t2, os'⟩ := s'
      obtain ⟨t0, G, J, kG, ge, hoe, na⟩ := mk_end0 (d2 := d2) (t2 := t2) I1 above stay un2 hok2 os2 bare2 ea ed hd1
      exact ⟨rv, _, _, _, ⟨G, g2, d2, t2, os'⟩, _, .ref C, some d, rfl, J, kG, ge, hoe, ⟨rfl, rfl, fun vs z => by cases z; rfl⟩, rfl, rfl, na, rfl, bare2, raises_own T.exC T.tyC, q2⟩
end

/-! ### a handled error that stands pinned: its class is asked, its fields are read -/
/-- isinstance(e, c), e the pinned error of the class D with its dict at dd -/
def rIsP (K : PySem.W.Frag) (D a dd : Addr) : List V → Hp → VK → Prop := fun xs H Q =>
  ∃ (c : V) (cv : Value) (b : Bool) (fs : List (Str × V)), xs = [.ref a, c] ∧ (∀ u, RelV c u → u = cv) ∧ PySem.W.kitOne K (.ref D) cv = some b ∧ H dd = some (.xd fs) ∧ Q (.bl b) H
theorem call_isP {X : Cx} {a D dd : Addr} {oe : Obj} (C : ExcC X.K D) (hp : (a, oe) ∈ X.pn) (hz : L2.Zc (.ref D) (some dd) oe) (hf : ∃ vs, oe.data = .fields vs) : CallR X (.builtin "isinstance") (rIsP X.K D a dd) := by
  intro pins s σ H xs us Q I r h
  obtain ⟨c, cv, b, fs, rfl, hcv, e, hd, q⟩ := h
  cases r with
  | cons rx rr =>
    cases rr with
    | cons rt rr =>
      cases rr
      cases rx
      have ec := hcv _ rt
      subst ec
      obtain ⟨hget, _⟩ := I.pin (a, oe) (List.mem_append_left _ hp)
      obtain ⟨vs, hv⟩ := hf
      have ho : ObjOk X.prog X.w H s.heap dd (.xd fs) := I.hok dd _ hd
      obtain ⟨od, hod⟩ := objOk_get ho
      have J : PySem.W.InstAt s.heap a oe D (some od) := ⟨hget, hz.1, by unfold PySem.W.notCls; rw [hv] <;> rfl, by rw [hz.2]; exact hod⟩
      have hcl : (PySem.W.clsIn X.K D).isSome = true := by
        obtain ⟨cd, hc, _⟩ := PySem.W.any_some C.hd
        rw [hc]
        rfl
      exact PySem.W.kia_one (PySem.W.kitx_exc hcl C.hg C.hk C.hs C.ha C.hn C.ht C.hm) I.kIn J e (fun z => nomatch z) fun tk => ⟨.bl b, H, I.kept (t' := tk) fun _ _ z => z, rfl, q⟩
theorem pe_xfP {X : Cx} {a C : Addr} {oe : Obj} {cls : Value} {d : Option Addr} {e : Expr} {te : TE} {pos : Pos} {n : Str} (T : XfC X.K C) (hno : PySem.W.findIn X.K (.ref C) n = some none)
    (hp : (a, oe) ∈ X.pn) (hz : L2.Zc cls d oe) (hf : ∃ vs, oe.data = .fields vs) (he : PE X e te) (hb : attributeBase e n X.env (eval e X.env) = eval e X.env := by rfl) : PE X (.Attribute e n pos) (tXf a cls d C n te) := by
  refine ⟨fun pins s σ H Q I h => ?_⟩
  refine attr_of hb (thn (he.run pins s σ H _ I h) fun u s1 out => ?_)
  obtain ⟨x, H1, I1, rx, ex, ec, dd, fs, v, ed, ea, l, q⟩ := out
  subst ex ec ed
  obtain rfl : u = Value.ref a := rx
  have hget := (I1.pin (a, oe) (List.mem_append_left _ hp)).1
  obtain ⟨vs, hd⟩ := hf
  obtain ⟨mA, hns, hr⟩ := (I1.hok dd _ ea : ObjOk X.prog X.w H1 s1.heap dd (.xd fs))
  obtain ⟨od, ho, hl⟩ := lookIn_ns hns
  obtain ⟨u, hu, ru⟩ := RelO.some_of (v := v) (o := mA n) (by rw [← l]; exact hr n)
  have J : PySem.W.InstAt s1.heap a oe C (some od) := ⟨hget, hz.1, by unfold PySem.W.notCls; rw [hd] <;> rfl, by rw [hz.2]; exact ho⟩
  exact PySem.HandSPX.exc_get I1.kIn J T.ga T.gg T.exC (PySem.W.findObj_own T.hdC hno rfl (by rw [hl, hu])) (handed_of ru) ⟨v, H1, I1.tok _, ru, q⟩

/-! ### a def that gets the handled error: its contract speaks of the error's object -/
abbrev SpP := Addr × Obj → Sp
structure FnE (P : Program) (w : World) (K : PySem.W.Frag) (mg : Str → Option Value) (base : Heap) (CX : CXT) (k : Nat) (f : Addr) (fd : FuncData) (ps : List Str) (sp : SpP) : Prop where
  len : ∀ p vs H Q E, sp p vs H Q E → vs.length = ps.length
  run : ∀ (A : Around) (outer : List Env) (s : Shared) (H : Hp) (args : Args) (us : List Value) (vs : List V) (Q : VK) (E : XK) (p : Addr × Obj), L2H.RoomH k A → L2H.Hot1 A p → L2H.PinOk outer H s p → Env0 P w K mg base A outer s H →
    BindsTo s fd args (ps.zip us) → Vals vs us → sp p vs H Q E → codeAny (model P w) A (.call (.ref f) args) (CR CX outer P w H s Q E) s
theorem fn_ofE {CX : CXT} {P : Program} {w : World} {K : PySem.W.Frag} {mg : Str → Option Value} {base : Heap} {k : Nat} {f : Addr} {name qual : Str} {params : Arguments} {body : List Stmt} {scope : Scope} {dV kV doc pm cdv ct oc : Value} {an od : Option Addr}
    {osl : Array (Option Value)} {N ps : List Str} {sp : SpP} (lk : K.lookup f = some ⟨oc, od, .func (PySem.W.fnOf name qual params body scope dV kV doc pm an cdv ct), osl⟩) (hcd : PySem.W.codeIn K cdv qual = true) (S : FnScope N ps scope)
    (len : ∀ p vs H Q E, sp p vs H Q E → vs.length = ps.length)
    (hbody : ∀ (A : Around) (outer : List Env) (s : Shared) (H : Hp) (vs : List V) (Q : VK) (E : XK) (p : Addr × Obj), L2H.Hot1 A p → L2H.RoomH k (A.deeper (envOfC qual scope s.heap.objs.size f cdv)) → sp p vs H Q E →
      ∃ t, PSs (L2H.cxH CX P w K mg base N qual scope f cdv A outer s H E p) body t ∧ t { nx := fun _ H' => Q .non H', rt := Q } (L2.start N vs) H) :
    FnE P w K mg base CX (k + 1) f (PySem.W.fnOf name qual params body scope dV kV doc pm an cdv ct) ps sp := by
  refine ⟨len, fun A outer s H args us vs Q E p room hot pin e0 binds rel told => ?_⟩
  have many := len _ _ _ _ _ told
  have KX : K.In s.heap := e0.mod.kin.keeps fun b o z => (e0.bs b o z).1
  have lim : s.heap.NoLimit := e0.mod.nolimit.keeps fun b o z => (e0.bs b o z).1
  have kinds : ∀ y ∈ ps.zip us, scope.names.lookup y.1 = some .local ∨ (scope.names.lookup y.1 = some .cell ∧ ((cellsFrom (s.heap.objs.size + 1) scope.names []).lookup y.1).isSome = true) := by
    rintro ⟨n, v⟩ hy
    rcases S.par n (List.of_mem_zip hy).1 with z | z
    · exact .inl z
    · exact .inr ⟨z, PySem.W.cellsFrom_some _ _ _ (.inl z)⟩
  refine codeAny_call_function room.depth (KX _ _ lk) rfl S.co S.gen rfl (PySem.W.codeRec_of KX hcd) (binds _ _ _ _ ?_)
  refine wpAny_newFunctionEnv_cells S.kind kinds fun env he s1 x => ?_
  subst he
  refine ⟨lim.keeps x.toInCall.keep, codeAny_func ?_⟩
  obtain ⟨t, walk, goal⟩ := hbody A outer s H vs Q E p hot (room.deeper _) told
  have I : Inv (L2H.cxH CX P w K mg base N qual scope f cdv A outer s H E p) [] (L2.start N vs) H s1 := L2H.inv_startH S pin e0 many rel x
  refine wpAny_mono (walk.run [] s1 (L2.start N vs) H _ I goal) (fun fl s' out => ?_) fun e s' out => out
  have back : ∀ {σ' : L2.St} {H' : Hp} {v : V} {u : Value}, Inv (L2H.cxH CX P w K mg base N qual scope f cdv A outer s H E p) [] σ' H' s' → RelV v u → Q v H' → CE outer P w H s Q u s' :=
    fun {σ' H' v u} J rv q => ⟨v, H', J.os, J.bare, J.base, J.hok, rv, q⟩
  cases fl with
  | next =>
    obtain ⟨σ', H', J, q⟩ := out
    exact back (v := V.non) (u := Value.none) J rfl q
  | ret u =>
    obtain ⟨v, σ', H', J, rv, q⟩ := out
    exact back J rv q
  | brk =>
    obtain ⟨_, _, _, q⟩ := out
    exact False.elim q
  | cont =>
    obtain ⟨_, _, _, q⟩ := out
    exact False.elim q
section
variable {X : Cx} {CX : CXT} {k : Nat} {f : Addr} {fd : FuncData} {ps : List Str} {sp : SpP} {E : L2.St → XK} {x : Str} {q pos : Pos} {e : Expr} {es : List Expr} {t : TA}
/-- f(e, ..) within a suite whose handled error is p -/
theorem pe_callE {p : Addr × Obj} {sp2 : Sp} (imp : ∀ vs H Q E, sp2 vs H Q E → sp p vs H Q E) (F : FnE X.prog X.w X.K X.mg X.base CX k f fd ps sp) (hr : L2H.RoomH k X.A) (hot : L2H.Hot1 X.A p) (hp : p ∈ X.pn) (hg : Gl X x) (hm : X.mg x = some (.ref f)) (hk : PySem.W.keepIn X.K (.ref f) = true) (hb : Binds X.K fd ps [])
    (hx : ∀ σ, PassesAt CX X σ (E σ)) (ha : PA X (e :: es) t) (hdb : (x == ("__debug__" : Str)) = false := by decide) (he : starEach (e :: es) X.env = (false, eval e X.env) :: starEach es X.env := by rfl)
    (hpl : (backTo pos (starEach es X.env)).any (·.1) = false := by rfl) : PE X (.Call (.Name x q) (e :: es) [] pos) (tCallS sp2 E t) := by
  refine ⟨fun pins s σ H Q I h => ?_⟩
  refine wpAny_Call_Name_kw (ld_glob I hg hm ?_ hdb)
  refine PySem.W.callWith_K (h₀ := X.base) I.ok.mod.kin hk (thn (ha.run pos pins s σ H _ I h) fun us s1 ⟨vs, H1, I1, rel, told⟩ => ⟨I1.kIn, ?_⟩) he hpl
  have many : us.length = ps.length := by rw [← rel.length]; exact F.len _ _ _ _ _ (imp _ _ _ _ told)
  have binds := hb s1 us I1.kIn (by rw [List.append_nil]; exact many)
  rw [List.append_nil] at binds
  have P1 := I1.pin p (List.mem_append_left _ hp)
  have pin : L2H.PinOk X.stack H1 s1 p := ⟨P1.1, P1.2.1, fun hm => (List.mem_cons.mp (I1.stkSub p.1 hm)).elim P1.2.2.1 P1.2.2.2.1, P1.2.2.2.2⟩
  refine wpAny_call (codeAny_mono (F.run X.A X.stack s1 H1 ⟨us, []⟩ us vs Q (E σ) p hr hot pin I1.env0 binds rel (imp _ _ _ _ told)) fun r s' out => ?_)
  cases r with
  | error e => exact hx σ pins H1 s1 e s' I1 out
  | ok fl =>
    cases fl with
    | ret u => exact I1.after out
    | next => exact False.elim out
    | brk => exact False.elim out
    | cont => exact False.elim out
end

/-! ### defs that may raise, under their names; nothing is let out that is not told -/
structure CalN (P : Program) (w : World) (K : PySem.W.Frag) (mg : Str → Option Value) (base : Heap) (k : Nat) (x : Str) (sp : Sp) : Prop where
  ex : ∃ (f : Addr) (fd : FuncData) (ps : List Str), FnOk P w K mg base (L2N.CX P w) k f fd ps sp ∧ mg x = some (.ref f) ∧ PySem.W.keepIn K (.ref f) = true ∧ Binds K fd ps []
theorem passN {X : Cx} : Passes (L2N.CX X.prog X.w) X (fun _ _ _ => False) := fun _ _ _ _ _ _ _ h => by
  obtain ⟨_, _, _, _, _, _, _, _, _, _, _, _, z⟩ := h
  exact z.elim
section
variable {X : Cx} {k j : Nat} {sp : Sp} {W : WX} {x : Str} {q pos : Pos} {e : Expr} {es : List Expr} {t : TA}
theorem pe_cN (c : CalN X.prog X.w X.K X.mg X.base k x sp) (hr : Room j X.A) (hk : k ≤ j) (tk : L2N.Takes X W) (hg : Gl X x) (ha : PA X (e :: es) t)
    (hdb : (x == ("__debug__" : Str)) = false := by decide) (he : starEach (e :: es) X.env = (false, eval e X.env) :: starEach es X.env := by rfl) (hpl : (backTo pos (starEach es X.env)).any (·.1) = false := by rfl) :
    PE X (.Call (.Name x q) (e :: es) [] pos) (tCallS sp (WE W) t) := by
  obtain ⟨f, fd, ps, F, hm, kp, b⟩ := c.ex
  exact pe_callS F (hr.mono hk) hg hm kp b (fun σ => L2N.passAt tk σ) ha hdb he hpl
end
theorem takes0N {X : Cx} : L2N.Takes X (fun _ _ _ _ => False) := fun _ _ x => by
  obtain ⟨_, _, _, _, _, _, _, _, _, _, _, _, _, _, _, _, z⟩ := x
  exact z.elim
/-- behind the making of an error: what stood stands, and its dict -/
theorem made_heap {H1 : Hp} {a d C : Addr} {o1 : HO} {fs : List (Str × V)} (n : H1 a = none) (nd : d ≠ a) : upd (del (upd (upd (upd H1 a o1) d (exd d fs)) a (exo a C (some d))) a) d (.xd fs) = upd H1 d (.xd fs) := by
  funext b
  by_cases hd : b = d
  · rw [hd, upd_same, upd_same]
  · rw [upd_ne hd, upd_ne hd]
    by_cases ha : b = a
    · rw [ha, del_same, n]
    · rw [del_ne ha, upd_ne ha, upd_ne hd, upd_ne ha]
end Wk
set_option Elab.async false
set_option linter.all false
set_option maxRecDepth 100000
set_option maxHeartbeats 4000000
/-! Wk: methods and classes called with keywords; methods that may raise. -/
namespace Wk
open PySem PySem.Spec PyProof.Rows L2
section
variable {X : Cx} {CX : CXT} {k n : Nat} {f C : Addr} {fd : FuncData} {ps ks : List Str} {sp : Sp} {x m : Str} {p pos apos : Pos} {e o : Expr} {es : List Expr} {kws : List Keyword} {ta : TE} {t tk : TA} {g : List Value → List Value → List Value} {gV : List V → List V → List V}
theorem run_kwS {E : XK} {pins : List (Addr × Obj)} {σ : L2.St} {H : Hp} {s : Shared} {Q : VK} {us ws : List Value} {vs zs : List V} (F : FnOk X.prog X.w X.K X.mg X.base CX k f fd ps sp) (hr : Room k X.A) (hb : KBn X.K fd ps n ks g gV) (hx : PassesAt CX X σ E)
    (I : Inv X pins σ H s) (r : Vals vs us) (rz : Vals zs ws) (l1 : vs.length = n) (l2 : zs.length = ks.length) (h : sp (gV vs zs) H Q E) : wpAny (model X.prog X.w) X.A (call (.ref f) us (ks.zip ws)) (EP X pins σ Q) X.xe s := by
  have r2 := hb.rel r rz
  refine wpAny_call (codeAny_mono (F.run X.A X.stack s H ⟨us, ks.zip ws⟩ (g us ws) (gV vs zs) Q E hr I.env0 (hb.to s us ws I.kIn (r.length.symm.trans l1) (rz.length.symm.trans l2)) r2 h) fun r s' out => ?_)
  cases r with
  | error e => exact hx pins H s e s' I out
  | ok fl =>
    cases fl with
    | ret u => exact I.after out
    | next => exact False.elim out
    | brk => exact False.elim out
    | cont => exact False.elim out
/-- o.m(k = v, ..) -/
def tMethK (C : Addr) (m : Str) (n : Nat) (sp : Sp) (gV : List V → List V → List V) (E : L2.St → XK) (ta : TE) (tk : TA) : TE := fun σ H Q => ta σ H fun x H1 => ∃ a dx fs, x = .ref a ∧ H1 a = some (.ins C dx fs) ∧ fs.lookup m = none ∧ tk σ H1 fun zs H2 => zs.length = n ∧ sp (gV [x] zs) H2 Q (E σ)
theorem pe_methK {E : L2.St → XK} {pl : Sem Bool} (he : PE X o ta) (c : Cls X.K C) (hm : Meth X.K C m f) (F : FnOk X.prog X.w X.K X.mg X.base CX k f fd ps sp) (hr : Room k X.A) (hb : KBn X.K fd ps 1 ks g gV) (hx : ∀ σ, PassesAt CX X σ (E σ)) (hkw : PK X kws tk)
    (hall : (backToKw pos (keywordEach kws X.env)).all (·.1.isSome) = true := by rfl) (hks : (backToKw pos (keywordEach kws X.env)).filterMap (·.1) = ks := by rfl)
    (hpl : ((backTo pos (starEach [] X.env)).any (·.1) || (backToKw pos (keywordEach kws X.env)).any (·.1.isNone)) = false := by rfl)
    (ht : eval (.Call (.Attribute o m apos) [] kws pos) X.env = (do
      let ov ← eval o X.env
      standAt apos.atName
      let (f, first) ← holding [ov] (getMethod ov m pl)
      callWith pos f first (backTo pos (starEach [] X.env)) (backToKw pos (keywordEach kws X.env))) := by rfl) :
    PE X (.Call (.Attribute o m apos) [] kws pos) (tMethK C m ks.length sp gV E ta tk) := by
  refine ⟨fun pins s σ H Q I h => ?_⟩
  refine PySem.W.methodCall_KW (pl := pl) (thn (he.run pins s σ H _ I h) fun u s1 ⟨x, H1, I1, rx, a, dx, fs, ex, ea, l, q⟩ => ?_) ht
  subst ex
  obtain rfl : u = Value.ref a := rx
  refine getmeth_ok I1 ea c hm l ?_
  refine PySem.W.callWith_KW0 (first := [.ref a]) (h₀ := X.base) I.ok.mod.kin hm.kp hall ?_ hpl
  refine thn (hkw.run pos pins s1 σ H1 _ I1 q) fun ws s2 ⟨zs, H2, I2, rz, l2, q2⟩ => ⟨I2.kIn, ?_⟩
  rw [hks]
  exact run_kwS (us := [.ref a]) (vs := [.ref a]) F hr hb (hx σ) I2 (.cons rfl .nil) rz rfl l2 q2
/-- o.m(e, ..) that may raise -/
def tMethE (C : Addr) (m : Str) (sp : Sp) (E : L2.St → XK) (ta : TE) (t : TA) : TE := fun σ H Q => ta σ H fun x H1 => ∃ a dx fs, x = .ref a ∧ H1 a = some (.ins C dx fs) ∧ fs.lookup m = none ∧ t σ H1 fun vs H2 => sp (x :: vs) H2 Q (E σ)
theorem pe_methE {E : L2.St → XK} {pl : Sem Bool} (he : PE X o ta) (c : Cls X.K C) (hm : Meth X.K C m f) (F : FnOk X.prog X.w X.K X.mg X.base CX k f fd ps sp) (hr : Room k X.A) (hb : Binds X.K fd ps []) (hx : ∀ σ, PassesAt CX X σ (E σ)) (ha : PA X (e :: es) t)
    (hst : starEach (e :: es) X.env = (false, eval e X.env) :: starEach es X.env := by rfl) (hpl : (backTo pos (starEach es X.env)).any (·.1) = false := by rfl)
    (ht : eval (.Call (.Attribute o m apos) (e :: es) [] pos) X.env = (do
      let ov ← eval o X.env
      standAt apos.atName
      let (f, first) ← holding [ov] (getMethod ov m pl)
      callWith pos f first (backTo pos (starEach (e :: es) X.env)) (backToKw pos (keywordEach [] X.env))) := by rfl) :
    PE X (.Call (.Attribute o m apos) (e :: es) [] pos) (tMethE C m sp E ta t) := by
  refine ⟨fun pins s σ H Q I h => ?_⟩
  refine PySem.W.methodCall_KW (pl := pl) (thn (he.run pins s σ H _ I h) fun u s1 ⟨x, H1, I1, rx, a, dx, fs, ex, ea, l, q⟩ => ?_) ht
  subst ex
  obtain rfl : u = Value.ref a := rx
  refine getmeth_ok I1 ea c hm l ?_
  refine PySem.W.callWith_K (first := [.ref a]) (h₀ := X.base) I.ok.mod.kin hm.kp (thn (ha.run pos pins s1 σ H1 _ I1 q) fun us s2 ⟨vs, H2, I2, r, q2⟩ => ⟨I2.kIn, ?_⟩) hst hpl
  exact run_fnS (us := .ref a :: us) (vs := .ref a :: vs) F hr hb (hx σ) I2 (.cons rfl r) q2
end
/-- no defaults: the values in the order of the parameters -/
theorem kbn0 {K : PySem.W.Frag} {x qual : Str} {params : Arguments} {body : List Stmt} {scope : Scope} {f : Addr} {fd : FuncData} {ps ks : List Str} {n : Nat} {g : List Value → List Value → List Value} {gV : List V → List V → List V} (F : FunD K x qual params body scope [] [] f fd)
    (hrel : ∀ {vs : List V} {us : List Value} {zs : List V} {ws : List Value}, Vals vs us → Vals zs ws → Vals (gV vs zs) (g us ws))
    (h : ∀ (kV doc pm : Value) (an : Option Addr) (cdv ct : Value) (us ws : List Value), us.length = n → ws.length = ks.length → bindArgs (PySem.W.fnOf x qual params body scope .none kV doc pm an cdv ct) ⟨us, ks.zip ws⟩ = pure (ps.zip (g us ws))) : KBn K fd ps n ks g gV := by
  obtain ⟨oc, od, dV, kV, doc, pm, an, cdv, ct, osl, rfl, lk, hcd, hD, hK⟩ := F.ex
  rcases hD with ⟨_, rfl⟩ | ⟨e, _⟩
  · exact ⟨fun s us ws _ l1 l2 => .of_eq (h kV doc pm an cdv ct us ws l1 l2), fun r1 r2 => hrel r1 r2⟩
  · exact absurd rfl e
/-! ### under their names -/
/-- a method called with keywords alone -/
structure MetK (P : Program) (w : World) (K : PySem.W.Frag) (mg : Str → Option Value) (base : Heap) (k : Nat) (C : Addr) (m : Str) (sp : Sp) (ks : List Str) (gV : List V → List V → List V) : Prop where
  ex : ∃ (f : Addr) (fd : FuncData) (ps : List Str) (g : List Value → List Value → List Value), Cls K C ∧ Meth K C m f ∧ FnOk P w K mg base C8.CX0 k f fd ps sp ∧ KBn K fd ps 1 ks g gV
/-- a method that may raise, called by place and with keywords -/
structure MetN (P : Program) (w : World) (K : PySem.W.Frag) (mg : Str → Option Value) (base : Heap) (k : Nat) (C : Addr) (m : Str) (sp : Sp) (ks : List Str) (gV : List V → List V → List V) : Prop where
  ex : ∃ (f : Addr) (fd : FuncData) (ps : List Str) (g : List Value → List Value → List Value), Cls K C ∧ Meth K C m f ∧ FnOk P w K mg base (L2N.CX P w) k f fd ps sp ∧ Binds K fd ps [] ∧ KBn K fd ps 1 ks g gV
/-- a class called with keywords alone -/
structure MakK (P : Program) (w : World) (K : PySem.W.Frag) (mg : Str → Option Value) (base : Heap) (k : Nat) (x : Str) (C : Addr) (sp : Sp) (ks : List Str) (gV : List V → List V → List V) : Prop where
  ex : ∃ (f : Addr) (fd : FuncData) (ps : List Str) (g : List Value → List Value → List Value), Mk K C f ∧ FnOk P w K mg base C8.CX0 k f fd ps sp ∧ mg x = some (.ref C) ∧ KBn K fd ps 1 ks g gV
section
variable {X : Cx} {k j : Nat} {C : Addr} {sp : Sp} {x m : Str} {p pos apos : Pos} {e o : Expr} {es : List Expr} {kws : List Keyword} {ta : TE} {t tk : TA} {ks : List Str} {gV : List V → List V → List V} {W : WX}
theorem pe_mtK {pl : Sem Bool} (c : MetK X.prog X.w X.K X.mg X.base k C m sp ks gV) (hr : Room j X.A) (hk : k ≤ j) (he : PE X o ta) (hkw : PK X kws tk)
    (hall : (backToKw pos (keywordEach kws X.env)).all (·.1.isSome) = true := by rfl) (hks : (backToKw pos (keywordEach kws X.env)).filterMap (·.1) = ks := by rfl)
    (hpl : ((backTo pos (starEach [] X.env)).any (·.1) || (backToKw pos (keywordEach kws X.env)).any (·.1.isNone)) = false := by rfl)
    (ht : eval (.Call (.Attribute o m apos) [] kws pos) X.env = (do
      let ov ← eval o X.env
      standAt apos.atName
      let (f, first) ← holding [ov] (getMethod ov m pl)
      callWith pos f first (backTo pos (starEach [] X.env)) (backToKw pos (keywordEach kws X.env))) := by rfl) :
    PE X (.Call (.Attribute o m apos) [] kws pos) (tMethK C m ks.length sp gV (fun _ => C8.E0) ta tk) := by
  obtain ⟨f, fd, ps, g, hc, hm, F, b⟩ := c.ex
  exact pe_methK he hc hm F (hr.mono hk) b (fun σ pins H s e s' I c => C8.pass0 (X := X) pins σ H s e s' I c) hkw hall hks hpl ht
theorem pe_mtKN {pl : Sem Bool} (c : MetN X.prog X.w X.K X.mg X.base k C m sp ks gV) (hr : Room j X.A) (hk : k ≤ j) (tk' : L2N.Takes X W) (he : PE X o ta) (hkw : PK X kws tk)
    (hall : (backToKw pos (keywordEach kws X.env)).all (·.1.isSome) = true := by rfl) (hks : (backToKw pos (keywordEach kws X.env)).filterMap (·.1) = ks := by rfl)
    (hpl : ((backTo pos (starEach [] X.env)).any (·.1) || (backToKw pos (keywordEach kws X.env)).any (·.1.isNone)) = false := by rfl)
    (ht : eval (.Call (.Attribute o m apos) [] kws pos) X.env = (do
      let ov ← eval o X.env
      standAt apos.atName
      let (f, first) ← holding [ov] (getMethod ov m pl)
      callWith pos f first (backTo pos (starEach [] X.env)) (backToKw pos (keywordEach kws X.env))) := by rfl) :
    PE X (.Call (.Attribute o m apos) [] kws pos) (tMethK C m ks.length sp gV (WE W) ta tk) := by
  obtain ⟨f, fd, ps, g, hc, hm, F, _, b⟩ := c.ex
  exact pe_methK he hc hm F (hr.mono hk) b (fun σ => L2N.passAt tk' σ) hkw hall hks hpl ht
theorem pe_mtN {pl : Sem Bool} (c : MetN X.prog X.w X.K X.mg X.base k C m sp ks gV) (hr : Room j X.A) (hk : k ≤ j) (tk' : L2N.Takes X W) (he : PE X o ta) (ha : PA X (e :: es) t)
    (hst : starEach (e :: es) X.env = (false, eval e X.env) :: starEach es X.env := by rfl) (hpl : (backTo pos (starEach es X.env)).any (·.1) = false := by rfl)
    (ht : eval (.Call (.Attribute o m apos) (e :: es) [] pos) X.env = (do
      let ov ← eval o X.env
      standAt apos.atName
      let (f, first) ← holding [ov] (getMethod ov m pl)
      callWith pos f first (backTo pos (starEach (e :: es) X.env)) (backToKw pos (keywordEach [] X.env))) := by rfl) :
    PE X (.Call (.Attribute o m apos) (e :: es) [] pos) (tMethE C m sp (WE W) ta t) := by
  obtain ⟨f, fd, ps, g, hc, hm, F, b, _⟩ := c.ex
  exact pe_methE he hc hm F (hr.mono hk) b (fun σ => L2N.passAt tk' σ) ha hst hpl ht
theorem pe_mkK (c : MakK X.prog X.w X.K X.mg X.base k x C sp ks gV) (hr : Room j X.A) (hk : k + 1 ≤ j) (hg : Gl X x) (hkw : PK X kws tk)
    (hall : (backToKw pos (keywordEach kws X.env)).all (·.1.isSome) = true := by rfl) (hks : (backToKw pos (keywordEach kws X.env)).filterMap (·.1) = ks := by rfl) (hdb : (x == ("__debug__" : Str)) = false := by decide)
    (hpl : ((backTo pos (starEach [] X.env)).any (·.1) || (backToKw pos (keywordEach kws X.env)).any (·.1.isNone)) = false := by rfl) :
    PE X (.Call (.Name x p) [] kws pos) (tMakeK C 0 ks.length sp gV C8.E0 tNil tk) := by
  obtain ⟨f, fd, ps, g, M, F, hm, b⟩ := c.ex
  exact pe_makeK0 M F (hr.mono hk) hg hm b C8.pass0 hkw hall hks hdb hpl
end
end Wk
set_option Elab.async false
set_option linter.all false
set_option maxRecDepth 100000
set_option maxHeartbeats 4000000
/-! Wk: defs with keyword-only parameters: their defaults, their names, and what they raise. -/
namespace Wk
open PySem PySem.Spec PyProof.Rows L2
/-- f(e, .., k = v, ..) that may raise -/
def tCallNS (n m : Nat) (sp : Sp) (gV : List V → List V → List V) (E : L2.St → XK) (t tk : TA) : TE := fun σ H Q => t σ H fun vs H1 => tk σ H1 fun zs H2 => vs.length = n ∧ zs.length = m ∧ sp (gV vs zs) H2 Q (E σ)
/-- a def that may raise, called by place and with keywords -/
structure CalKN (P : Program) (w : World) (K : PySem.W.Frag) (mg : Str → Option Value) (base : Heap) (k : Nat) (x : Str) (sp : Sp) (n : Nat) (ks : List Str) (gV : List V → List V → List V) : Prop where
  ex : ∃ (f : Addr) (fd : FuncData) (ps : List Str) (g : List Value → List Value → List Value), FnOk P w K mg base (L2N.CX P w) k f fd ps sp ∧ mg x = some (.ref f) ∧ PySem.W.keepIn K (.ref f) = true ∧ KBn K fd ps n ks g gV
section
variable {X : Cx} {k j n : Nat} {sp : Sp} {x : Str} {p pos : Pos} {e : Expr} {es : List Expr} {kws : List Keyword} {t tk : TA} {ks : List Str} {gV : List V → List V → List V} {W : WX}
theorem pe_ckpN (c : CalKN X.prog X.w X.K X.mg X.base k x sp n ks gV) (hr : Room j X.A) (hk : k ≤ j) (tk' : L2N.Takes X W) (hg : Gl X x) (ha : PA X (e :: es) t) (hkw : PK X kws tk)
    (hall : (backToKw pos (keywordEach kws X.env)).all (·.1.isSome) = true := by rfl) (hks : (backToKw pos (keywordEach kws X.env)).filterMap (·.1) = ks := by rfl)
    (hdb : (x == ("__debug__" : Str)) = false := by decide) (he : starEach (e :: es) X.env = (false, eval e X.env) :: starEach es X.env := by rfl)
    (hpl : ((backTo pos (starEach (e :: es) X.env)).any (·.1) || (backToKw pos (keywordEach kws X.env)).any (·.1.isNone)) = false := by rfl) :
    PE X (.Call (.Name x p) (e :: es) kws pos) (tCallNS n ks.length sp gV (WE W) t tk) := by
  obtain ⟨f, fd, ps, g, F, hm, kp, b⟩ := c.ex
  refine ⟨fun pins s σ H Q I h => ?_⟩
  refine wpAny_Call_Name_kw (ld_glob I hg hm ?_ hdb)
  refine PySem.W.callWith_KW (h₀ := X.base) I.ok.mod.kin kp hall (thn (ha.run pos pins s σ H _ I h) fun us s1 ⟨vs, H1, I1, r, q⟩ => ?_) hpl he
  refine thn (hkw.run pos pins s1 σ H1 _ I1 q) fun ws s2 ⟨zs, H2, I2, rz, l1, l2, q2⟩ => ⟨I2.kIn, ?_⟩
  rw [hks]
  exact run_kwS F (hr.mono hk) b (L2N.passAt tk' σ) I2 r rz l1 l2 q2
end
/-- the keyword-only parameters are all written -/
theorem kbnK {K : PySem.W.Frag} {x qual : Str} {params : Arguments} {body : List Stmt} {scope : Scope} {kwd : List (Str × V)} {f : Addr} {fd : FuncData} {ps ks : List Str} {n : Nat} {g : List Value → List Value → List Value} {gV : List V → List V → List V} (F : FunD K x qual params body scope [] kwd f fd)
    (hrel : ∀ {vs : List V} {us : List Value} {zs : List V} {ws : List Value}, Vals vs us → Vals zs ws → Vals (gV vs zs) (g us ws))
    (h : ∀ (kV doc pm : Value) (an : Option Addr) (cdv ct : Value) (us ws : List Value), us.length = n → ws.length = ks.length → bindArgs (PySem.W.fnOf x qual params body scope .none kV doc pm an cdv ct) ⟨us, ks.zip ws⟩ = pure (ps.zip (g us ws))) : KBn K fd ps n ks g gV := by
  obtain ⟨oc, od, dV, kV, doc, pm, an, cdv, ct, osl, rfl, lk, hcd, hD, hK⟩ := F.ex
  rcases hD with ⟨_, rfl⟩ | ⟨e, _⟩
  · exact ⟨fun s us ws _ l1 l2 => .of_eq (h kV doc pm an cdv ct us ws l1 l2), fun r1 r2 => hrel r1 r2⟩
  · exact absurd rfl e
section
variable {P : Program} {w : World} {K : PySem.W.Frag} {mg : Str → Option Value} {base : Heap}
/-- called by place alone: the keyword-only parameters have their defaults -/
theorem mkD0 {x : Str} {st : Stmt} {N ps : List Str} {kwd : List (Str × V)} {k n : Nat} {sp : Sp} (d : DefKw K mg x st kwd) (S : FnScope N ps (defScope st)) (hk : kwd ≠ []) (hn : n + kwd.length = ps.length)
    (hb : ∀ (D : Addr) (doc pm : Value) (an : Option Addr) (cdv ct : Value) (us ks : List Value), us.length = n → ks.length = kwd.length →
      KwChain D ((kwd.map (·.1)).zip ks) (bindArgs (PySem.W.fnOf x x (defArgs st) (defBody st) (defScope st) .none (.ref D) doc pm an cdv ct) ⟨us, []⟩) (ps.zip (us ++ ks)))
    (len : ∀ vs H Q E, sp vs H Q E → vs.length = ps.length)
    (body : ∀ (f : Addr) (cdv : Value) (A : Around) (outer : List Env) (s : Shared) (H : Hp) (vs : List V) (Q : VK) (E : XK), Room k (A.deeper (envOfC x (defScope st) s.heap.objs.size f cdv)) → sp vs H Q E →
      ∃ t, PSs (cxOf C8.CX0 P w K mg base N x (defScope st) f cdv A outer s H E).nox (defBody st) t ∧ t { nx := fun _ H' => Q .non H', rt := Q } (start N vs) H) : C8.Cal P w K mg base (k + 1) x sp (kwd.map (·.2)) := by
  obtain ⟨f, fd, F, hm⟩ := d
  obtain ⟨ds, r, b⟩ := F.binds0 n hk hn hb
  exact ⟨f, fd, ps, ds, F.ok S len (fun cdv A outer s H vs Q E hr hsp => let ⟨t, h, q⟩ := body f cdv A outer s H vs Q E hr hsp; ⟨t, h.nox, q⟩), hm, F.kp, b, r⟩
/-- called with names for all that is written by name -/
theorem mkKg {x : Str} {st : Stmt} {N ps ks : List Str} {kwd : List (Str × V)} {k n : Nat} {sp : Sp} (d : DefKw K mg x st kwd) (S : FnScope N ps (defScope st)) (g : {α : Type} → List α → List α → List α)
    (hrel : ∀ {vs : List V} {us : List Value} {zs : List V} {ws : List Value}, Vals vs us → Vals zs ws → Vals (g vs zs) (g us ws))
    (hb : ∀ (kV doc pm : Value) (an : Option Addr) (cdv ct : Value) (us ws : List Value), us.length = n → ws.length = ks.length → bindArgs (PySem.W.fnOf x x (defArgs st) (defBody st) (defScope st) .none kV doc pm an cdv ct) ⟨us, ks.zip ws⟩ = pure (ps.zip (g us ws)))
    (len : ∀ vs H Q E, sp vs H Q E → vs.length = ps.length)
    (body : ∀ (f : Addr) (cdv : Value) (A : Around) (outer : List Env) (s : Shared) (H : Hp) (vs : List V) (Q : VK) (E : XK), Room k (A.deeper (envOfC x (defScope st) s.heap.objs.size f cdv)) → sp vs H Q E →
      ∃ t, PSs (cxOf C8.CX0 P w K mg base N x (defScope st) f cdv A outer s H E).nox (defBody st) t ∧ t { nx := fun _ H' => Q .non H', rt := Q } (start N vs) H) : CalK P w K mg base (k + 1) x sp n ks (fun vs zs => g vs zs) := by
  obtain ⟨f, fd, F, hm⟩ := d
  exact ⟨f, fd, ps, fun us ws => g us ws, F.ok S len (fun cdv A outer s H vs Q E hr hsp => let ⟨t, h, q⟩ := body f cdv A outer s H vs Q E hr hsp; ⟨t, h.nox, q⟩), hm, F.kp, kbnK F hrel hb⟩
end
theorem hd_cons1 {c : Cell} {o : HO} {H : Hp} {L : List Cell} (h : Hd H L) (e : H c.1 = some o) (q : c.2 o) (n : ∀ d ∈ L, d.1 ≠ c.1) : Hd H (c :: L) := ⟨List.nodup_cons.mpr ⟨fun z => by
  obtain ⟨d, hd, e⟩ := List.mem_map.mp z
  exact n d hd e, h.nd⟩, fun d hd => by
  rcases List.mem_cons.mp hd with rfl | hd
  · exact ⟨o, e, q⟩
  · exact h.at_ d hd⟩
/-! ### steps -/
section
variable {K : PySem.W.Frag} {σ : L2.St} {H : Hp} {Q : VK} {L M : List Cell} {p : Addr} {xs : List V}
theorem w_callNS {n m : Nat} {sp : Sp} {gV : List V → List V → List V} {E : L2.St → XK} {t tk : TA} (h : t σ H fun vs H1 => tk σ H1 fun zs H2 => vs.length = n ∧ zs.length = m ∧ sp (gV vs zs) H2 Q (E σ)) : tCallNS n m sp gV E t tk σ H Q := h
theorem w_callS {sp : Sp} {E : L2.St → XK} {t : TA} (h : t σ H fun vs H1 => sp vs H1 Q (E σ)) : tCallS sp E t σ H Q := h
theorem g_clear (hh : Hd H L) (k : Pk L (lstC p xs) M) (q : ∀ H2, Hd H2 (lstC p [] :: M) → Q .non H2) : rClear (.ref p) [] H Q := ⟨p, xs, rfl, rfl, (hh.pk k).lst (List.mem_cons_self ..), q _ (hh.chgL k Chg.of)⟩
end
end Wk
set_option Elab.async false
set_option linter.all false
set_option maxRecDepth 100000
set_option maxHeartbeats 4000000
/-! Wk: comprehensions with a test, over enumerate; cells that are told by a list. -/
namespace Wk
open PySem PySem.Spec PyProof.Rows L2
/-! ### comprehensions -/
def KLcE (K : PySem.W.Frag) (g : TG) (tt : TT) (te : TE) (us : List Nat) (σ : L2.St) (Q : VK) (vs : List V) (H : Hp) : Prop := ∃ a xs, vs = [.ref a] ∧ SqL K H a xs ∧ KLc (Ite K a) g tt te us σ H Q
section
variable {K : PySem.W.Frag} {σ : L2.St} {H : Hp} {Q : VK} {L : List Cell} {te tl : TE} {ta : TA} {tt : TT} {g : TG} {us : List Nat} {n m : Nat} {j : Int} {a : Addr} {xs : List V}
theorem w_lcE (h : ta σ H fun vs H1 => KLcE K g tt te us σ Q vs H1) : tLc (iEnum K ta) g tt te us σ H Q := h
theorem set2_none {n m : Nat} {x y : Option V} (h : n ≠ m) : ((((((σ.set m none).set n none).set n x).set m y).set m none).set n none) = (σ.set m none).set n none := by
  refine List.ext_getElem? fun k => ?_
  simp only [List.getElem?_set, List.length_set]
  split <;> split <;> simp_all
/-- [e for i, x in enumerate(xs) if t] -/
theorem lc_E (hnm : n ≠ m) (h : SqL K H a xs) (Pv : Nat → Addr → Hp → Prop) (h0 : ∀ D H1, New H H1 D (.lst []) → Pv 0 D H1) (hl : ∀ i D H, i ≤ xs.length → Pv i D H → SqL K H a xs)
    (hs : ∀ (i : Nat) x D H H', xs[i]? = some x → Pv i D H → Upt [] H H' → tt ((((σ.set m none).set n none).set n (some (.int (i : Int)))).set m (some x)) H' fun b H3 =>
      if b = true then te ((((σ.set m none).set n none).set n (some (.int (i : Int)))).set m (some x)) H3 (KApp D (Pv (i + 1) D)) else Pv (i + 1) D H3)
    (hd : ∀ D H, Pv xs.length D H → Q (.ref D) H) : KLcE K (gTup K 2 (gCons (gName n) (gCons (gName m) gNil))) tt te [n, m] σ Q [.ref a] H := by
  refine ⟨a, xs, rfl, h, fun D hD => ?_⟩
  refine lc_it walk_enum (fun i H => Pv i D H) (h0 D _ (New.of hD)) (fun i H hi p => hl i D H hi p) (fun i x H H' hi p y => ?_) fun H p => hd D H p
  obtain ⟨T, u, v, rfl, hT, rfl, hu, hv⟩ := y
  cases hu
  have nw := New.of (H := H) (o := HO.tup [V.int (i : Int), v]) hT
  refine w_gtup (SqT.of nw.at_) rfl ?_
  refine w_gcons (w_gname (w_gcons (w_gname (w_gnil ⟨?_, ?_⟩))))
  · exact set2_none hnm
  · exact hs i v D H _ hv p nw.keep
/-- [e for k in range(m) if t] -/
theorem lc_RF (hj : j = (m : Int)) (hb : m ≤ 1000000) (Pv : Nat → Addr → Hp → Prop) (h0 : ∀ D H1, New H H1 D (.lst []) → Pv 0 D H1)
    (hs : ∀ (i : Nat) D H, i < m → Pv i D H → tt ((σ.set n none).set n (some (.int (i : Int)))) H fun b H3 => if b = true then te ((σ.set n none).set n (some (.int (i : Int)))) H3 (KApp D (Pv (i + 1) D)) else Pv (i + 1) D H3)
    (hd : ∀ D H, Pv m D H → Q (.ref D) H) : KLcR (gName n) tt te [n] σ Q [.int j] H := by
  subst hj
  refine ⟨(m : Int), rfl, by omega, by omega, fun D hD => ?_⟩
  rw [show ((m : Int)).toNat = m by simp]
  refine lc_it (walk_range (lo := 0) (n := m)) (fun i H => Pv i D H) (h0 D _ (New.of hD)) (fun _ _ _ _ => trivial) (fun i x H H' hi p y => ?_) fun H p => hd D H p
  obtain ⟨rfl, rfl⟩ := y
  simp only [Int.zero_add]
  refine w_gname ⟨?_, hs i D _ hi p⟩
  show List.set (List.set (List.set σ n none) n (some (V.int (i : Int)))) n none = List.set σ n none
  simp
/-- [e for x in xs if t] -/
theorem lc_LF (h : SqL K H a xs) (Pv : Nat → Addr → Hp → Prop) (h0 : ∀ D H1, New H H1 D (.lst []) → Pv 0 D H1) (hl : ∀ i D H, i ≤ xs.length → Pv i D H → SqL K H a xs)
    (hs : ∀ (i : Nat) x D H, xs[i]? = some x → Pv i D H → tt ((σ.set n none).set n (some x)) H fun b H3 => if b = true then te ((σ.set n none).set n (some x)) H3 (KApp D (Pv (i + 1) D)) else Pv (i + 1) D H3)
    (hd : ∀ D H, Pv xs.length D H → Q (.ref D) H) : KLcL K (gName n) tt te [n] σ Q (.ref a) H := by
  refine ⟨a, rfl, ⟨xs, h⟩, fun D hD => ?_⟩
  refine lc_it walk_list (fun i H => Pv i D H) (h0 D _ (New.of hD)) (fun i H hi p => hl i D H hi p) (fun i x H H' hi p y => ?_) fun H p => hd D H p
  obtain ⟨rfl, hx⟩ := y
  refine w_gname ⟨?_, hs i x D _ hx p⟩
  show List.set (List.set (List.set σ n none) n (some x)) n none = List.set σ n none
  simp
theorem g_lcE (hh : Hd H L) (hnm : n ≠ m) (h : SqL K H a xs) (Pv : Nat → Addr → Hp → Prop) (h0 : ∀ D H1, Hd H1 (lstC D [] :: L) → Pv 0 D H1) (hl : ∀ i D H, i ≤ xs.length → Pv i D H → SqL K H a xs)
    (hs : ∀ (i : Nat) x D H H', xs[i]? = some x → Pv i D H → Upt [] H H' → tt ((((σ.set m none).set n none).set n (some (.int (i : Int)))).set m (some x)) H' fun b H3 =>
      if b = true then te ((((σ.set m none).set n none).set n (some (.int (i : Int)))).set m (some x)) H3 (KApp D (Pv (i + 1) D)) else Pv (i + 1) D H3)
    (hd : ∀ D H, Pv xs.length D H → Q (.ref D) H) : KLcE K (gTup K 2 (gCons (gName n) (gCons (gName m) gNil))) tt te [n, m] σ Q [.ref a] H := lc_E hnm h Pv (fun D H1 nn => h0 D H1 (hh.newL nn)) hl hs hd
theorem g_lcRF (hh : Hd H L) (hj : j = (m : Int)) (hb : m ≤ 1000000) (Pv : Nat → Addr → Hp → Prop) (h0 : ∀ D H1, Hd H1 (lstC D [] :: L) → Pv 0 D H1)
    (hs : ∀ (i : Nat) D H, i < m → Pv i D H → tt ((σ.set n none).set n (some (.int (i : Int)))) H fun b H3 => if b = true then te ((σ.set n none).set n (some (.int (i : Int)))) H3 (KApp D (Pv (i + 1) D)) else Pv (i + 1) D H3)
    (hd : ∀ D H, Pv m D H → Q (.ref D) H) : KLcR (gName n) tt te [n] σ Q [.int j] H := lc_RF hj hb Pv (fun D H1 nn => h0 D H1 (hh.newL nn)) hs hd
theorem g_lcLF (hh : Hd H L) (h : SqL K H a xs) (Pv : Nat → Addr → Hp → Prop) (h0 : ∀ D H1, Hd H1 (lstC D [] :: L) → Pv 0 D H1) (hl : ∀ i D H, i ≤ xs.length → Pv i D H → SqL K H a xs)
    (hs : ∀ (i : Nat) x D H, xs[i]? = some x → Pv i D H → tt ((σ.set n none).set n (some x)) H fun b H3 => if b = true then te ((σ.set n none).set n (some x)) H3 (KApp D (Pv (i + 1) D)) else Pv (i + 1) D H3)
    (hd : ∀ D H, Pv xs.length D H → Q (.ref D) H) : KLcL K (gName n) tt te [n] σ Q (.ref a) H := lc_LF h Pv (fun D H1 nn => h0 D H1 (hh.newL nn)) hl hs hd
end
/-! ### cells that are told by a list -/
theorem Hd.subl {H : Hp} {L A : List Cell} (h : Hd H L) (s : List.Sublist A L) : Hd H A := ⟨(s.map Prod.fst).nodup h.nd, fun c hc => h.at_ c (s.subset hc)⟩
/-- the page of a slot: its list's place and its words -/
abbrev Pg := Option (Addr × List Int)
def pgV : Pg → V
  | none => .non
  | some p => .ref p.1
def pgK : Pg → List Cell
  | none => []
  | some p => [lstC p.1 (p.2.map V.int)]
def pgC (ps : List Pg) : List Cell := ps.flatMap pgK
theorem pgC_perm : ∀ {ps : List Pg} {i : Nat} (p : Pg), i < ps.length → (pgC (ps.set i p)).Perm (pgK p ++ pgC (ps.set i none))
  | q :: ps, 0, p, _ => by
    show (pgK p ++ pgC ps).Perm (pgK p ++ ([] ++ pgC ps))
    exact List.Perm.refl _
  | q :: ps, i + 1, p, h => by
    have ih := pgC_perm (ps := ps) (i := i) p (by simpa using h)
    show (pgK q ++ pgC (ps.set i p)).Perm (pgK p ++ (pgK q ++ pgC (ps.set i none)))
    refine (List.Perm.append_left _ ih).trans ?_
    rw [← List.append_assoc, ← List.append_assoc]
    exact List.Perm.append_right _ List.perm_append_comm
theorem pgC_none : ∀ {ps : List Pg} {i : Nat}, List.Sublist (pgC (ps.set i none)) (pgC ps)
  | [], _ => List.Sublist.refl _
  | q :: ps, 0 => List.sublist_append_right (pgK q) (pgC ps)
  | q :: ps, i + 1 => by
    show List.Sublist (pgK q ++ pgC (ps.set i none)) (pgK q ++ pgC ps)
    exact List.Sublist.append (List.Sublist.refl _) pgC_none
theorem pgC_mem {ps : List Pg} {i : Nat} {a : Addr} {ws : List Int} (h : ps[i]? = some (some (a, ws))) : lstC a (ws.map V.int) ∈ pgC ps :=
  List.mem_flatMap.mpr ⟨some (a, ws), List.mem_of_getElem? h, List.mem_singleton.mpr rfl⟩
section
variable {H H' : Hp} {L R : List Cell} {ps : List Pg} {i : Nat} {a : Addr} {ws vs : List Int}
/-- a new page stands in slot i -/
theorem Hd.pgNew (h : Hd H (lstC a (ws.map V.int) :: (pgC ps ++ R))) (hi : i < ps.length) : Hd H (pgC (ps.set i (some (a, ws))) ++ R) := by
  refine Hd.perm (Hd.subl h (List.Sublist.cons₂ _ (List.Sublist.append (pgC_none (i := i)) (List.Sublist.refl R)))) ?_
  exact ((pgC_perm (some (a, ws)) hi).append_right R).symm
/-- the page of slot i, by itself -/
theorem Hd.pgGet (h : Hd H (pgC ps ++ R)) (hp : ps[i]? = some (some (a, ws))) : Hd H (lstC a (ws.map V.int) :: (pgC (ps.set i none) ++ R)) := by
  have hi := (List.getElem?_eq_some_iff.mp hp).1
  have e : ps.set i (some (a, ws)) = ps := by
    obtain ⟨_, e⟩ := List.getElem?_eq_some_iff.mp hp
    rw [← e, List.set_getElem_self]
  have h2 : Hd H (pgC (ps.set i (some (a, ws))) ++ R) := by rw [e]; exact h
  exact Hd.perm h2 ((pgC_perm (some (a, ws)) hi).append_right R)
theorem Hd.pgPut (h : Hd H (lstC a (ws.map V.int) :: (pgC (ps.set i none) ++ R))) (hi : i < ps.length) : Hd H (pgC (ps.set i (some (a, ws))) ++ R) :=
  Hd.perm h ((pgC_perm (some (a, ws)) hi).append_right R).symm
end
end Wk
set_option Elab.async false
set_option linter.all false
set_option maxRecDepth 100000
set_option maxHeartbeats 4000000
/-! Wk: a def that may raise, called by keywords alone. -/
namespace Wk
open PySem PySem.Spec PyProof.Rows L2
def tCallKS (m : Nat) (sp : Sp) (gV : List V → List V → List V) (E : L2.St → XK) (tk : TA) : TE := fun σ H Q => tk σ H fun zs H2 => zs.length = m ∧ sp (gV [] zs) H2 Q (E σ)
section
variable {X : Cx} {k j : Nat} {sp : Sp} {x : Str} {p pos : Pos} {kws : List Keyword} {tk : TA} {ks : List Str} {gV : List V → List V → List V} {W : WX}
theorem pe_ckN (c : CalKN X.prog X.w X.K X.mg X.base k x sp 0 ks gV) (hr : Room j X.A) (hk : k ≤ j) (tk' : L2N.Takes X W) (hg : Gl X x) (hkw : PK X kws tk)
    (hall : (backToKw pos (keywordEach kws X.env)).all (·.1.isSome) = true := by rfl) (hks : (backToKw pos (keywordEach kws X.env)).filterMap (·.1) = ks := by rfl)
    (hdb : (x == ("__debug__" : Str)) = false := by decide)
    (hpl : ((backTo pos (starEach [] X.env)).any (·.1) || (backToKw pos (keywordEach kws X.env)).any (·.1.isNone)) = false := by rfl) :
    PE X (.Call (.Name x p) [] kws pos) (tCallKS ks.length sp gV (WE W) tk) := by
  obtain ⟨f, fd, ps, g, F, hm, kp, b⟩ := c.ex
  refine ⟨fun pins s σ H Q I h => ?_⟩
  refine wpAny_Call_Name_kw (ld_glob I hg hm ?_ hdb)
  refine PySem.W.callWith_KW0 (h₀ := X.base) I.ok.mod.kin kp hall ?_ hpl
  refine thn (hkw.run pos pins s σ H _ I h) fun ws s2 ⟨zs, H2, I2, rz, l2, q2⟩ => ⟨I2.kIn, ?_⟩
  rw [hks]
  exact run_kwS F (hr.mono hk) b (L2N.passAt tk' σ) I2 .nil rz rfl l2 q2
end
end Wk
set_option Elab.async false
set_option linter.all false
set_option maxRecDepth 100000
set_option maxHeartbeats 4000000
/-! Wk: max(xs, key=x.m), x.m a method of an own class that changes nothing: the first of the greatest. -/
namespace Wk
open PySem PySem.Spec PyProof.Rows L2
/-- the first one of the greatest -/
def FstMax (n : Nat) (kf : Nat → Int) (i : Nat) : Prop := ∀ j, j < n → kf i ≥ kf j ∧ (j < i → kf i > kf j)
def rMaxK (K : PySem.W.Frag) (g : Addr) (sp : Sp) : List V → List V → Hp → VK → Prop := fun vs zs H Q =>
  ∃ (a q self : Addr) (xs : List V) (kf : Nat → Int), vs = [.ref a] ∧ zs = [.ref q] ∧ SqL K H a xs ∧ 0 < xs.length ∧ H q = some (.met g self) ∧
    (∀ (i : Nat) (v : V), xs[i]? = some v → ∀ Q' : VK, Q' (.int (kf i)) H → sp [.ref self, v] H Q' (fun _ _ _ => False)) ∧
    ∀ (i : Nat) (v : V), xs[i]? = some v → FstMax xs.length kf i → Q v H
section
variable {X : Cx} {pins : List (Addr × Obj)} {σ : L2.St} {H : Hp} {k : Nat} {g a q self I S : Addr} {sp : Sp} {xs : List V} {kf : Nat → Int} {Q : VK}
/-- the key's call -/
theorem key_turn {pn : List (Addr × Obj)} {s : Shared} {v : V} {u : Value} {n : Int} (F : FnR X.prog X.w X.K X.mg X.base C8.CX0 k g sp) (hr : Room (k + 1) X.A) (J : Inv X pn σ H s) (hq : H q = some (.met g self)) (r : RelV v u)
    (hs : ∀ Q' : VK, Q' (.int n) H → sp [.ref self, v] H Q' (fun _ _ _ => False)) :
    wpAny (model X.prog X.w) X.A.in1 (call (.ref q) [u]) (fun y s' => (∃ t, y = .int n t) ∧ Inv X pn σ H s') (fun _ _ => False) s := by
  refine wpAny_call (PySem.W.method_call (J.hok q _ hq) (codeAny_mono (F X.A.in1 X.stack s H [.ref self, u] [.ref self, v] (fun y H' => y = .int n ∧ H' = H) (fun _ _ _ => False) hr.in1 ⟨J.env0.frames, J.env0.mod, J.env0.bs, J.env0.bsz, J.env0.funs, J.env0.frf, J.env0.hok, J.env0.bare⟩ (.cons rfl (.cons r .nil)) (hs _ ⟨rfl, rfl⟩)) fun r s' hq => ?_))
  cases r with
  | error e => exact False.elim hq
  | ok fl =>
    cases fl with
    | ret y =>
      have h2 : EP X pn σ (fun y H' => y = .int n ∧ H' = H) y s' := J.after hq
      obtain ⟨v', H', J', r', rfl, rfl⟩ := h2
      exact ⟨r', J'⟩
    | next => exact False.elim hq
    | brk => exact False.elim hq
    | cont => exact False.elim hq
def RmaxE (X : Cx) (pins : List (Addr × Obj)) (σ : L2.St) (Q : VK) (r : Result) (s' : Shared) : Prop := match r with
  | .ok (.ret v) => EP X pins σ Q v s'
  | .ok _ => False
  | .error e => X.xe e s'
theorem off_iter {s : Shared} {its : Array Value} {n : Nat} {l : Addr} (h : PlainL s.heap a its) (hi : s.heap.IsListIter I l n) : a ≠ I := by
  rintro rfl
  obtain ⟨o, m, e, c, _⟩ := h
  obtain ⟨o', e', c', _⟩ := hi
  rw [e] at e'
  cases e'
  rw [c] at c'
  exact absurd c' (by decide)
theorem max_loop (F : FnR X.prog X.w X.K X.mg X.base C8.CX0 k g sp) (hr : Room (k + 1) X.A) (hS : SqL X.K H a xs) (hq : H q = some (.met g self)) (hSI : S ≠ I)
    (hs : ∀ (i : Nat) (v : V), xs[i]? = some v → ∀ Q' : VK, Q' (.int (kf i)) H → sp [.ref self, v] H Q' (fun _ _ _ => False))
    (hQ : ∀ (i : Nat) (v : V), xs[i]? = some v → FstMax xs.length kf i → Q v H) :
    ∀ (r j i : Nat) (s : Shared) (vb : Value) (y : V) (tb : Tok) (c : Nat), xs.length - (j + 1) = r → j + 1 ≤ xs.length → Inv X pins σ H s → FpOk X pins H I → FpOk X pins H S →
      s.heap.get? S = some (seqObj "list" #[vb, .int (kf i) tb] c) → s.heap.IsListIter I a (j + 1) → xs[i]? = some y → RelV y vb → i ≤ j → (∀ j', j' ≤ j → kf i ≥ kf j' ∧ (j' < i → kf i > kf j')) →
      codeAny (model X.prog X.w) X.A (.builtin "max.loop" ⟨[.ref I, .ref q, .ref S], []⟩) (RmaxE X pins σ Q) s := by
  have hname : (toString "max" ++ toString ".loop" : String) = "max.loop" := by decide
  have hh : X.A.in1.handled = none := hr.hd
  intro r
  induction r with
  | zero =>
    intro j i s vb y tb c er hj J fI fS nS hit hy ry hij hbest
    have hin : j + 1 = xs.length := by omega
    obtain ⟨its, rv, pl, hz⟩ := J.list hS
    have hsz : its.toArray.size = xs.length := by rw [List.size_toArray, rv.length]
    have haI := off_iter pl hit
    have W := Walks.list (prog := X.prog) (w := X.w) (A := X.A.in1) hh I a haI its.toArray
    refine codeAny_builtin PySem.F.entry_max_loop ?_
    rw [Around.under_plainId PySem.F.plain_max_loop _]
    show wpAny _ X.A.in1 (seqItems? (.ref S) >>= _) _ _ _
    refine wpAny_bind (wpAny_seqItems nS rfl ?_)
    show wpAny _ X.A.in1 (tryCatch (pyNext (.ref I)) _ >>= _) _ _ _
    refine wpAny_bind (wpAny_tryCatch (W.done _ _ _ ⟨by rw [hsz, ← hin]; exact hit, pl.isList⟩ fun h' tk' hk' => ?_))
    have J1 : Inv X pins σ H { s with heap := h', toks := tk' } := J.turnedL (ch := [I]) hk' fun b hb => by rw [List.mem_singleton.mp hb]; exact fI
    have hS' := hk' S _ (by simpa using hSI) nS
    have s1 := Heap.SameBut.update h' S (Obj.mapSeq fun _ => (#[] : Array Value))
    show wpAny _ X.A.in1 (updateSeq S (fun _ => #[]) >>= _) _ _ _
    refine wpAny_bind ?_
    refine wpAny_updateSeq hS' rfl (wpAny_bind (wpAny_letGo (wpAny_pure ?_)))
    exact ⟨y, H, J1.turnedL (ch := [S]) (fun b o hb e => (s1.2 b (fun z => hb (List.mem_singleton.mpr z))).trans e) (fun b hb => by rw [List.mem_singleton.mp hb]; exact fS), ry, hQ i y hy fun j' hj' => hbest j' (by omega)⟩
  | succ r ih =>
    intro j i s vb y tb c er hj J fI fS nS hit hy ry hij hbest
    have hlt : j + 1 < xs.length := by omega
    obtain ⟨its, rv, pl, hz⟩ := J.list hS
    have hsz : its.toArray.size = xs.length := by rw [List.size_toArray, rv.length]
    have haI := off_iter pl hit
    have W := Walks.list (prog := X.prog) (w := X.w) (A := X.A.in1) hh I a haI its.toArray
    refine codeAny_builtin PySem.F.entry_max_loop ?_
    rw [Around.under_plainId PySem.F.plain_max_loop _]
    show wpAny _ X.A.in1 (seqItems? (.ref S) >>= _) _ _ _
    refine wpAny_bind (wpAny_seqItems nS rfl ?_)
    show wpAny _ X.A.in1 (tryCatch (pyNext (.ref I)) _ >>= _) _ _ _
    refine wpAny_bind (wpAny_tryCatch (W.item (j + 1) _ _ _ (by rw [hsz]; exact hlt) ⟨hit, pl.isList⟩ fun v h' tk' hP hst' hk' => ?_))
    have hv : its[j + 1]? = some v := by simpa using hP
    have hx : xs[j + 1]? = some xs[j + 1] := List.getElem?_eq_getElem hlt
    obtain ⟨v', hv', rxv⟩ := rv.get hx
    rw [hv] at hv'
    cases hv'
    obtain ⟨oI', hoI', hoc, hod⟩ := id hst'.1
    have J1 : Inv X pins σ H { s with heap := h', toks := tk' } := J.turnedL (ch := [I]) hk' fun b hb => by rw [List.mem_singleton.mp hb]; exact fI
    have nS1 := hk' S _ (by simpa using hSI) nS
    have J2 : Inv X (pins ++ [(S, seqObj "list" #[vb, .int (kf i) tb] c), (I, oI')]) σ H { s with heap := h', toks := tk' } := J1.pins_of fun p hp => by
      rcases List.mem_append.mp hp with hp | hp
      · exact J1.pin p (List.mem_append_right _ hp)
      · rcases List.mem_cons.mp hp with rfl | hp
        · exact ⟨nS1, fS.1, fS.2.1, fS.2.2.1, fun v e => by cases e⟩
        · rw [List.mem_singleton.mp hp]
          exact ⟨hoI', fI.1, fI.2.1, fI.2.2.1, fun v e => by rw [hod] at e; cases e⟩
    show wpAny _ X.A.in1 (tryCatch (holding [v] (call (.ref q) [v])) _ >>= _) _ _ _
    refine wpAny_bind (wpAny_tryCatch (wpAny_holding (wpAny_mono (key_turn F hr J2 hq rxv (hs (j + 1) _ hx)) (fun x s2 he => ?_) fun _ _ hF => hF.elim)))
    obtain ⟨⟨t2, rfl⟩, J3⟩ := he
    have nS2 := (J3.pin (S, seqObj "list" #[vb, .int (kf i) tb] c) (List.mem_append_right _ (List.mem_append_right _ (List.mem_cons_self ..)))).1
    have nI2 := (J3.pin (I, oI') (List.mem_append_right _ (List.mem_append_right _ (List.mem_cons_of_mem _ (List.mem_cons_self ..))))).1
    have J4 : Inv X pins σ H s2 := J3.unpinned
    have hit2 : s2.heap.IsListIter I a (j + 1 + 1) := ⟨oI', nI2, hoc, hod⟩
    show wpAny _ X.A.in1 (tryCatch (holding [v, .int (kf (j + 1)) t2] (richCompare .Gt (.int (kf (j + 1)) t2) (.int (kf i) tb) >>= _)) _ >>= _) _ _ _
    refine wpAny_bind (wpAny_tryCatch (wpAny_holding (wpAny_bind (CmpOf.ints_gt (prog := X.prog) (w := X.w) (A := X.A.in1) (P := fun i v => ∃ t, v = .int (kf i) t) kf (fun i v h => h) (j + 1) i _ _ _ _ _ ⟨t2, rfl⟩ ⟨tb, rfl⟩ ?_))))
    refine wpAny_bind (wpAny_holding (wpAny_truthy_bool ?_))
    refine wpAny_bind (wpAny_letGo (wpAny_pure ?_))
    by_cases hb' : kf (j + 1) > kf i
    · have s1 := Heap.SameBut.update s2.heap S (Obj.mapSeq fun _ => #[v, .int (kf (j + 1)) t2])
      obtain ⟨c2, hc2⟩ : ∃ c2, (s2.heap.update S (Obj.mapSeq fun _ => #[v, .int (kf (j + 1)) t2])).get? S = some (seqObj "list" #[v, .int (kf (j + 1)) t2] c2) := ⟨_, get?_update_seq nS2 fun _ => #[v, .int (kf (j + 1)) t2]⟩
      simp only [hb', decide_true, if_true]
      refine wpAny_bind ?_
      refine wpAny_updateSeq nS2 rfl (wpAny_bind (wpAny_letGo ?_))
      rw [hname]
      refine wpAny_pure ⟨plainId_quiet PySem.F.plain_max_loop _, ih (j + 1) (j + 1) _ v _ t2 c2 (by omega) hlt (J4.turnedL (ch := [S]) (fun b o hb e => (s1.2 b (fun z => hb (List.mem_singleton.mpr z))).trans e) (fun b hb => by rw [List.mem_singleton.mp hb]; exact fS)) fI fS hc2 ⟨oI', (s1.2 I hSI.symm).trans nI2, hoc, hod⟩ hx rxv (Nat.le_refl _) fun j' hj' => ?_⟩
      by_cases e : j' = j + 1
      · subst e
        exact ⟨by omega, fun _ => by omega⟩
      · have hb1 := hbest j' (by omega)
        have hb2 := hb1.1
        exact ⟨by omega, fun _ => by omega⟩
    · simp only [hb', decide_false, Bool.false_eq_true, if_false]
      refine wpAny_bind (wpAny_letGo ?_)
      rw [hname]
      refine wpAny_pure ⟨plainId_quiet PySem.F.plain_max_loop _, ih (j + 1) i _ vb y tb c (by omega) hlt J4 fI fS nS2 hit2 hy ry (by omega) fun j' hj' => ?_⟩
      by_cases e : j' = j + 1
      · subst e
        exact ⟨by omega, fun _ => by omega⟩
      · exact hbest j' (by omega)
theorem cr_maxK (F : FnR X.prog X.w X.K X.mg X.base C8.CX0 k g sp) (hr : Room (k + 1) X.A) : CallRK X (.builtin "max") [Str.ofString "key"] (rMaxK X.K g sp) := by
  intro pins s σ H vs zs us ws Q I0 r rz h
  obtain ⟨a, q, self, xs, kf, rfl, rfl, hS, h0, hq, hs, hQ⟩ := h
  obtain rfl := Vals.ref1 r
  obtain ⟨w1, rfl, e1⟩ := vals1 rz
  obtain rfl : w1 = Value.ref q := by cases e1; rfl
  have hname : (toString "max" ++ toString ".loop" : String) = "max.loop" := by decide
  have hh : X.A.in1.handled = none := hr.hd
  obtain ⟨its, rv, pl, hz⟩ := I0.list hS
  have hls := pl.isList
  have hsz : its.toArray.size = xs.length := by rw [List.size_toArray, rv.length]
  refine kmk_tree PySem.F.kind_max PySem.F.plain_max PySem.F.entry_max (kmk_max_key _ _) ?_
  show wpAny _ X.A.in1 (Builtin.Builtins.bindParams "max" ["key", "default"] 0 ⟨[], [(Str.ofString "key", .ref q)]⟩ >>= _) _ _ s
  refine wpAny_bind (wpAny_of_eq (show Builtin.Builtins.bindParams "max" ["key", "default"] 0 ⟨[], [(Str.ofString "key", .ref q)]⟩ = pure [some (.ref q), none] from rfl) ?_)
  refine wpAny_bind (wpAny_pure ?_)
  refine wpAny_bind (wpAny_pyIter_list hls ?_)
  refine wpAny_bind (wpAny_newList ?_ (Nat.zero_le _))
  rw [hname]
  have hS2 : (s.heap.push { cls := .type "list_iterator", data := .fields #[.ref a, .int 0 0] }).objs.size = s.heap.objs.size + 1 := size_push' ..
  have hSI : (s.heap.push { cls := .type "list_iterator", data := .fields #[.ref a, .int 0 0] }).objs.size ≠ s.heap.objs.size := by rw [hS2]; exact Nat.ne_of_gt (Nat.lt_succ_self _)
  refine wpAny_pure ⟨plainId_quiet PySem.F.plain_max_loop _, ?_⟩
  have gI : ((s.heap.push { cls := .type "list_iterator", data := .fields #[.ref a, .int 0 0] }).push (seqObj "list" #[] 0)).get? s.heap.objs.size = some { cls := .type "list_iterator", data := .fields #[.ref a, .int 0 0] } :=
    Heap.get?_push_of_some _ (Heap.get?_push_size _ rfl)
  have gS : ((s.heap.push { cls := .type "list_iterator", data := .fields #[.ref a, .int 0 0] }).push (seqObj "list" #[] 0)).get? (s.heap.push { cls := .type "list_iterator", data := .fields #[.ref a, .int 0 0] }).objs.size = some (seqObj "list" #[] 0) := Heap.get?_push_size _ rfl
  have fI : FpOk X pins H s.heap.objs.size := I0.fpOk (Nat.le_refl _) (I0.hok.fresh (Nat.le_refl _))
  have fS : FpOk X pins H (s.heap.push { cls := .type "list_iterator", data := .fields #[.ref a, .int 0 0] }).objs.size := I0.fpOk (by rw [hS2]; exact Nat.le_succ _) (I0.hok.fresh (by rw [hS2]; exact Nat.le_succ _))
  generalize (s.heap.push { cls := .type "list_iterator", data := .fields #[.ref a, .int 0 0] }).objs.size = S at gS hSI fS ⊢
  generalize hI : s.heap.objs.size = I at gI hSI fI ⊢
  have J0 : Inv X pins σ H { s with heap := (s.heap.push { cls := .type "list_iterator", data := .fields #[.ref a, .int 0 0] }).push (seqObj "list" #[] 0) } := I0.kept (t' := s.toks) fun b u e => Heap.get?_push_of_some _ (Heap.get?_push_of_some _ e)
  have pl2 : PlainL ((s.heap.push { cls := .type "list_iterator", data := .fields #[.ref a, .int 0 0] }).push (seqObj "list" #[] 0)) a its.toArray := pl.at fun o e => Heap.get?_push_of_some _ (Heap.get?_push_of_some _ e)
  have haI : a ≠ I := by rw [← hI]; exact Nat.ne_of_lt pl.lt
  have W := Walks.list (prog := X.prog) (w := X.w) (A := X.A.in1) hh I a haI its.toArray
  refine codeAny_builtin PySem.F.entry_max_loop ?_
  rw [Around.under_plainId PySem.F.plain_max_loop _]
  show wpAny _ X.A.in1 (seqItems? (.ref S) >>= _) _ _ _
  refine wpAny_bind (wpAny_seqItems gS rfl ?_)
  show wpAny _ X.A.in1 (tryCatch (pyNext (.ref I)) _ >>= _) _ _ _
  refine wpAny_bind (wpAny_tryCatch (W.item 0 _ _ _ (by rw [hsz]; exact h0) ⟨⟨_, gI, rfl, rfl⟩, pl2.isList⟩ fun v h' tk' hP hst' hk' => ?_))
  have hv : its[0]? = some v := by simpa using hP
  have hx : xs[0]? = some xs[0] := List.getElem?_eq_getElem h0
  obtain ⟨v', hv', rxv⟩ := rv.get hx
  rw [hv] at hv'
  cases hv'
  obtain ⟨oI', hoI', hoc, hod⟩ := id hst'.1
  have J1 : Inv X pins σ H { s with heap := h', toks := tk' } := Inv.turnedL (s := { s with heap := (s.heap.push { cls := .type "list_iterator", data := .fields #[.ref a, .int 0 0] }).push (seqObj "list" #[] 0) }) (h' := h') (t' := tk') (ch := [I]) J0 hk' fun b hb => by rw [List.mem_singleton.mp hb]; exact fI
  have nS1 := hk' S _ (by simpa using hSI) gS
  have J2 : Inv X (pins ++ [(S, seqObj "list" #[] 0), (I, oI')]) σ H { s with heap := h', toks := tk' } := J1.pins_of fun p hp => by
    rcases List.mem_append.mp hp with hp | hp
    · exact J1.pin p (List.mem_append_right _ hp)
    · rcases List.mem_cons.mp hp with rfl | hp
      · exact ⟨nS1, fS.1, fS.2.1, fS.2.2.1, fun v e => by cases e⟩
      · rw [List.mem_singleton.mp hp]
        exact ⟨hoI', fI.1, fI.2.1, fI.2.2.1, fun v e => by rw [hod] at e; cases e⟩
  show wpAny _ X.A.in1 (tryCatch (holding [v] (call (.ref q) [v])) _ >>= _) _ _ _
  refine wpAny_bind (wpAny_tryCatch (wpAny_holding (wpAny_mono (key_turn F hr J2 hq rxv (hs 0 _ hx)) (fun x s2 he => ?_) fun _ _ hF => hF.elim)))
  obtain ⟨⟨t2, rfl⟩, J3⟩ := he
  have nS2 := (J3.pin (S, seqObj "list" #[] 0) (List.mem_append_right _ (List.mem_append_right _ (List.mem_cons_self ..)))).1
  have nI2 := (J3.pin (I, oI') (List.mem_append_right _ (List.mem_append_right _ (List.mem_cons_of_mem _ (List.mem_cons_self ..))))).1
  have J4 : Inv X pins σ H s2 := J3.unpinned
  have s1 := Heap.SameBut.update s2.heap S (Obj.mapSeq fun _ => #[v, .int (kf 0) t2])
  obtain ⟨c2, hc2⟩ : ∃ c2, (s2.heap.update S (Obj.mapSeq fun _ => #[v, .int (kf 0) t2])).get? S = some (seqObj "list" #[v, .int (kf 0) t2] c2) := ⟨_, get?_update_seq nS2 fun _ => #[v, .int (kf 0) t2]⟩
  show wpAny _ X.A.in1 (updateSeq S (fun _ => #[v, .int (kf 0) t2]) >>= _) _ _ _
  refine wpAny_bind ?_
  refine wpAny_updateSeq nS2 rfl ?_
  rw [hname]
  refine wpAny_pure ⟨plainId_quiet PySem.F.plain_max_loop _, max_loop F hr hS hq hSI hs hQ _ 0 0 _ v _ t2 c2 rfl h0 (J4.turnedL (ch := [S]) (fun b o hb e => (s1.2 b (fun z => hb (List.mem_singleton.mpr z))).trans e) (fun b hb => by rw [List.mem_singleton.mp hb]; exact fS)) fI fS hc2 ⟨oI', (s1.2 I hSI.symm).trans nI2, hoc, hod⟩ hx rxv (Nat.le_refl _) fun j' hj' => ?_⟩
  have e : j' = 0 := by omega
  subst e
  exact ⟨by omega, fun h => absurd h (Nat.lt_irrefl _)⟩
end
end Wk
set_option Elab.async false
set_option linter.all false
set_option maxRecDepth 100000
set_option maxHeartbeats 4000000
/-! Wk: x in o by an own __contains__; x.m as a value. -/
namespace Wk
open PySem PySem.Spec PyProof.Rows L2
def rInOwn (C : Addr) (sp : Sp) : R2 := fun x y H Q => ∃ a dx fs, y = .ref a ∧ H a = some (.ins C dx fs) ∧ sp [.ref a, x] H (fun v H' => ∃ b, v = .bl b ∧ Q (.bl b) H') C8.E0
section
variable {X : Cx} {k j : Nat} {C : Addr} {sp : Sp}
theorem contains_own {pins : List (Addr × Obj)} {s : Shared} {σ : L2.St} {H : Hp} {x : V} {v : Value} {a dx : Addr} {fs : List (Str × V)} {R : Bool → Hp → Prop} {QQ : Bool → Shared → Prop} (c : C8.Met X.prog X.w X.K X.mg X.base k C "__contains__" sp []) (hr : Room j X.A) (hk : k ≤ j) (I : Inv X pins σ H s) (rx : RelV x v) (e : H a = some (.ins C dx fs))
    (q : sp [.ref a, x] H (fun v H' => ∃ b, v = .bl b ∧ R b H') C8.E0) (hQ : ∀ b H' s', Inv X pins σ H' s' → R b H' → QQ b s') : wpAny (model X.prog X.w) X.A (contains (.ref a) v) QQ X.xe s := by
  obtain ⟨f, fd, ps, ds, hc, hm, F, b, d⟩ := c.ex
  obtain ⟨mA, O, _, _, _, _⟩ := ins_get I.hok e
  obtain ⟨od, J, hl⟩ := O.look
  have ht : PySem.W.typeIn X.K (.ref f) = some (.type "function") := beq_iff_eq.mp hm.fn
  have sp1 : ∀ {Q' : Option Value → Shared → Prop} {s1 : Shared}, s1.heap = s.heap → Q' (some (.ref f)) s1 → wpAny (model X.prog X.w) X.A (specialOf (.ref a) "__contains__") Q' X.xe s1 := fun {Q' s1} eh h => by
    have X' : X.K.In s1.heap := by rw [eh]; exact I.kIn
    obtain ⟨ox, J'⟩ : ∃ ox, PySem.W.InstAt s1.heap a ox C od := ⟨_, by rw [eh]; exact J⟩
    unfold specialOf
    exact wpAny_bind (J'.type.here ((PySem.W.looks_findIn X' hm.at_).here h))
  unfold contains
  refine wpAny_holding ?_
  show wpAny _ _ (specialOf (.ref a) "__contains__" >>= _) _ _ _
  refine wpAny_bind (sp1 rfl ?_)
  rw [if_neg (by intro h; cases h)]
  try refine wpAny_bind (wpAny_pure ?_)
  unfold callSpecialUnlessNone?
  refine wpAny_bind ?_
  refine wpAny_bind (sp1 rfl ?_)
  refine wpAny_holding ?_
  refine wpAny_bind ((PySem.W.bind_fn I.kIn _ ht).here ?_)
  dsimp only
  rw [if_neg (by intro h; cases h)]
  try refine wpAny_bind (wpAny_pure ?_)
  refine wpAny_bind ?_
  refine wpAny_mono (run_fn F (hr.mono hk) b d C8.pass0 I (us := [.ref a, v]) (vs := [.ref a, x]) (.cons rfl (.cons rx .nil)) q) (fun u s' he => ?_) fun _ _ h => h
  obtain ⟨w, H', I', rw', bb, rfl, hR⟩ := he
  have eu : u = .bool bb := by cases rw'; rfl
  subst eu
  refine wpAny_pure ?_
  exact wpAny_truthy_bool (hQ bb H' s' I' hR)
theorem op_in_own (c : C8.Met X.prog X.w X.K X.mg X.base k C "__contains__" sp []) (hr : Room j X.A) (hk : k ≤ j) : OpR X (compareOp .In) (rInOwn C sp) := by
  intro pins s σ H x y v u Q I rx ry h
  obtain ⟨a, dx, fs, rfl, e, q⟩ := h
  cases ry
  show wpAny _ _ (contains (.ref a) v >>= _) _ _ _
  refine wpAny_bind (contains_own c hr hk I rx e q fun b H' s' I' hq => ?_)
  exact wpAny_pure ⟨.bl b, H', I', rfl, hq⟩
/-- o.m as a value -/
def tBnd (C : Addr) (m : Str) (g : Addr) (ta : TE) : TE := fun σ H Q => ta σ H fun x H1 => ∃ a dx fs, x = .ref a ∧ H1 a = some (.ins C dx fs) ∧ fs.lookup m = none ∧ ∀ p, H1 p = none → Q (.ref p) (upd H1 p (.met g a))
theorem pe_bnd {o : Expr} {m : Str} {g : Addr} {ta : TE} {pos : Pos} (c : Cls X.K C) (k : BMeth X.K C m g) (he : PE X o ta) (hab : attributeBase o m X.env (eval o X.env) = eval o X.env := by rfl) : PE X (.Attribute o m pos) (tBnd C m g ta) := by
  refine ⟨fun pins s σ H Q I h => ?_⟩
  refine attr_of hab (thn (he.run pins s σ H _ I h) fun u s1 ⟨x, H1, I1, rx, a, dx, fs, ex, ea, l, q⟩ => ?_)
  subst ex
  exact op_getbound I1 ea c k l rx q
end
end Wk
set_option Elab.async false
set_option linter.all false
set_option maxRecDepth 100000
set_option maxHeartbeats 4000000
/-! Wk: o.m(e, .., k = v): a method called by place and by name; methods with defaults of both kinds. -/
namespace Wk
open PySem PySem.Spec PyProof.Rows L2
structure MetP (P : Program) (w : World) (K : PySem.W.Frag) (mg : Str → Option Value) (base : Heap) (k : Nat) (C : Addr) (m : Str) (sp : Sp) (n : Nat) (ks : List Str) (gV : List V → List V → List V) : Prop where
  ex : ∃ (f : Addr) (fd : FuncData) (ps : List Str) (g : List Value → List Value → List Value), Cls K C ∧ Meth K C m f ∧ FnOk P w K mg base C8.CX0 k f fd ps sp ∧ KBn K fd ps (n + 1) ks g gV
def tMethP (C : Addr) (m : Str) (n nk : Nat) (sp : Sp) (gV : List V → List V → List V) (E : XK) (ta : TE) (t tk : TA) : TE := fun σ H Q => ta σ H fun x H1 => ∃ a dx fs, x = .ref a ∧ H1 a = some (.ins C dx fs) ∧ fs.lookup m = none ∧ t σ H1 fun vs H2 => tk σ H2 fun zs H3 => vs.length = n ∧ zs.length = nk ∧ sp (gV (x :: vs) zs) H3 Q E
section
variable {X : Cx} {k j n : Nat} {C : Addr} {m : Str} {sp : Sp} {ks : List Str} {gV : List V → List V → List V} {o e : Expr} {es : List Expr} {kws : List Keyword} {ta : TE} {t tk : TA} {pos apos : Pos}
theorem pe_mtP {pl : Sem Bool} (c : MetP X.prog X.w X.K X.mg X.base k C m sp n ks gV) (hr : Room j X.A) (hk : k ≤ j) (he : PE X o ta) (ha : PA X (e :: es) t) (hkw : PK X kws tk)
    (hall : (backToKw pos (keywordEach kws X.env)).all (·.1.isSome) = true := by rfl) (hks : (backToKw pos (keywordEach kws X.env)).filterMap (·.1) = ks := by rfl)
    (hst : starEach (e :: es) X.env = (false, eval e X.env) :: starEach es X.env := by rfl)
    (hpl : ((backTo pos (starEach (e :: es) X.env)).any (·.1) || (backToKw pos (keywordEach kws X.env)).any (·.1.isNone)) = false := by rfl)
    (ht : eval (.Call (.Attribute o m apos) (e :: es) kws pos) X.env = (do
      let ov ← eval o X.env
      standAt apos.atName
      let (f, first) ← holding [ov] (getMethod ov m pl)
      callWith pos f first (backTo pos (starEach (e :: es) X.env)) (backToKw pos (keywordEach kws X.env))) := by rfl) :
    PE X (.Call (.Attribute o m apos) (e :: es) kws pos) (tMethP C m n ks.length sp gV C8.E0 ta t tk) := by
  obtain ⟨f, fd, ps, g, hc, hm, F, b⟩ := c.ex
  refine ⟨fun pins s σ H Q I h => ?_⟩
  refine PySem.W.methodCall_KW (pl := pl) (thn (he.run pins s σ H _ I h) fun u s1 ⟨x, H1, I1, rx, a, dx, fs, ex, ea, l, q⟩ => ?_) ht
  subst ex
  obtain rfl : u = Value.ref a := rx
  refine getmeth_ok I1 ea hc hm l ?_
  refine PySem.W.callWith_KW (first := [.ref a]) (h₀ := X.base) I.ok.mod.kin hm.kp hall (thn (ha.run pos pins s1 σ H1 _ I1 q) fun us s2 ⟨vs, H2, I2, r, q2⟩ => ?_) hpl hst
  refine thn (hkw.run pos pins s2 σ H2 _ I2 q2) fun ws s3 ⟨zs, H3, I3, rz, l1, l2, q3⟩ => ⟨I3.kIn, ?_⟩
  rw [hks]
  exact run_fnN (us := .ref a :: us) (vs := .ref a :: vs) F (hr.mono hk) b C8.pass0 I3 (.cons rfl r) rz (congrArg (· + 1) l1) l2 q3
def KMethP (C : Addr) (m : Str) (n nk : Nat) (sp : Sp) (gV : List V → List V → List V) (E : XK) (t tk : TA) (σ : L2.St) (Q : VK) (x : V) (H1 : Hp) : Prop := ∃ a dx fs, x = .ref a ∧ H1 a = some (.ins C dx fs) ∧ fs.lookup m = none ∧ t σ H1 fun vs H2 => tk σ H2 fun zs H3 => vs.length = n ∧ zs.length = nk ∧ sp (gV (x :: vs) zs) H3 Q E
theorem w_methP {nk : Nat} {E : XK} {σ : L2.St} {H : Hp} {Q : VK} (h : ta σ H fun x H1 => KMethP C m n nk sp gV E t tk σ Q x H1) : tMethP C m n nk sp gV E ta t tk σ H Q := h
theorem g_methP {nk : Nat} {E : XK} {σ : L2.St} {H : Hp} {Q : VK} {L : List Cell} {a : Addr} {fs : List (Str × V)} (hh : Hd H L) (k : insC a C fs ∈ L) (l : fs.lookup m = none) (h : t σ H fun vs H2 => tk σ H2 fun zs H3 => vs.length = n ∧ zs.length = nk ∧ sp (gV (.ref a :: vs) zs) H3 Q E) : KMethP C m n nk sp gV E t tk σ Q (.ref a) H := let ⟨dx, e⟩ := hh.ins k; ⟨a, dx, fs, rfl, e, l, h⟩
end
end Wk
set_option Elab.async false
set_option linter.all false
set_option maxRecDepth 100000
set_option maxHeartbeats 4000000
/-! Wk: dicts over the ledger; tables whose values are lists. -/
namespace Wk
open PySem PySem.Spec PyProof.Rows L2
def KDI (x y : V) (H : Hp) (Q : VK) : Prop := ∃ a o, x = .ref a ∧ DGet H a y o ∧ Q (.bl o.isSome) H
def KDN (x y : V) (H : Hp) (Q : VK) : Prop := ∃ a o, x = .ref a ∧ DGet H a y o ∧ Q (.bl (!o.isSome)) H
def KDG (x y : V) (H : Hp) (Q : VK) : Prop := ∃ a v, x = .ref a ∧ DGet H a y (some v) ∧ Q v H
def KDU (D : Ends) (σ : L2.St) (x y v : V) (H : Hp) : Prop := ∃ a H4, x = .ref a ∧ DPut H a y v H4 ∧ D.nx σ H4
def KDX (D : Ends) (σ : L2.St) (x y : V) (H : Hp) : Prop := ∃ a kvs k, x = .ref a ∧ H a = some (.dK kvs) ∧ y = kV k ∧ (valV kvs k).isSome = true ∧ D.nx σ (upd H a (.dK (dropK kvs k)))
def KDP (t : TE) (σ : L2.St) (Q : VK) (x : V) (H1 : Hp) : Prop := ∃ a, x = .ref a ∧ IsD H1 a ∧ t σ H1 fun y H2 => ∃ kvs k v, H2 a = some (.dK kvs) ∧ y = kV k ∧ valV kvs k = some v ∧ Q v (upd H2 a (.dK (dropK kvs k)))
section
variable {σ : L2.St} {H : Hp} {Q : VK} {L M : List Cell} {p : Addr} {k : Key} {y v : V} {kvs : List (Key × V)} {ty td tv : TE} {D : Ends}
theorem w_din (h : ty σ H fun y H1 => td σ H1 fun x H2 => KDI x y H2 Q) : tDIn ty td σ H Q := h
theorem w_dnotin (h : ty σ H fun y H1 => td σ H1 fun x H2 => KDN x y H2 Q) : tDNotIn ty td σ H Q := h
theorem w_dget (h : td σ H fun x H1 => ty σ H1 fun y H2 => KDG x y H2 Q) : tDGet td ty σ H Q := h
theorem w_dput (h : tv σ H fun v H1 => td σ H1 fun x H2 => ty σ H2 fun y H3 => KDU D σ x y v H3) : sDPut td ty tv D σ H := h
theorem w_ddel (h : td σ H fun x H1 => ty σ H1 fun y H2 => KDX D σ x y H2) : sDDel td ty D σ H := h
theorem w_dpop (h : td σ H fun x H1 => KDP ty σ Q x H1) : tDPop1 td ty σ H Q := h
theorem g_din {b : Bool} (hh : Hd H L) (m : dctC p kvs ∈ L) (ey : y = kV k) (e : (valV kvs k).isSome = b) (q : Q (.bl b) H) : KDI (.ref p) y H Q := ⟨p, _, rfl, .inl ⟨kvs, k, .inl (hh.dct m), ey, rfl⟩, by rw [e]; exact q⟩
theorem g_dnotin {b : Bool} (hh : Hd H L) (m : dctC p kvs ∈ L) (ey : y = kV k) (e : (valV kvs k).isSome = b) (q : Q (.bl (!b)) H) : KDN (.ref p) y H Q := ⟨p, _, rfl, .inl ⟨kvs, k, .inl (hh.dct m), ey, rfl⟩, by rw [e]; exact q⟩
theorem g_dget (hh : Hd H L) (m : dctC p kvs ∈ L) (ey : y = kV k) (e : valV kvs k = some v) (q : Q v H) : KDG (.ref p) y H Q := ⟨p, v, rfl, .inl ⟨kvs, k, .inl (hh.dct m), ey, e.symm⟩, q⟩
theorem g_dput (hh : Hd H L) (m : Pk L (dctC p kvs) M) (ey : y = kV k) (hz : kvs.length < sizeLine) (q : ∀ H2, Hd H2 (dctC p (putK kvs k v) :: M) → D.nx σ H2) : KDU D σ (.ref p) y v H :=
  ⟨p, _, rfl, .inl ⟨kvs, k, (hh.pk m).dct (List.mem_cons_self ..), ey, hz, rfl⟩, q _ (hh.chgD m Chg.of)⟩
theorem g_ddel (hh : Hd H L) (m : Pk L (dctC p kvs) M) (ey : y = kV k) (e : (valV kvs k).isSome = true) (q : ∀ H2, Hd H2 (dctC p (dropK kvs k) :: M) → D.nx σ H2) : KDX D σ (.ref p) y H :=
  ⟨p, kvs, k, rfl, (hh.pk m).dct (List.mem_cons_self ..), ey, e, q _ (hh.chgD m Chg.of)⟩
theorem g_dpop {t : TE} (hh : Hd H L) (m : dctC p kvs ∈ L) (h : t σ H fun y H2 => ∃ kvs k v, H2 p = some (.dK kvs) ∧ y = kV k ∧ valV kvs k = some v ∧ Q v (upd H2 p (.dK (dropK kvs k)))) : KDP t σ Q (.ref p) H := ⟨p, rfl, .inl ⟨kvs, .inl (hh.dct m)⟩, h⟩
theorem g_listDK {kvs : List (Key × V)} (hh : Hd H L) (m : dctC p kvs ∈ L) (q : ∀ l H2, Hd H2 (lstC l (kvs.map fun kv => kV kv.1) :: L) → Q (.ref l) H2) : rListD [.ref p] H Q :=
  ⟨p, kvs, rfl, hh.dct m, fun l hl => q l _ (hh.newL (New.of hl))⟩
end
theorem tk_succ {α : Type} {xs : List α} {i : Nat} {x : α} (h : xs[i]? = some x) : xs.take (i + 1) = xs.take i ++ [x] := by
  rw [List.take_succ, h]; rfl
theorem pSnoc {α β : Type} {F : α → β → Prop} : ∀ {xs : List α} {ys : List β} {x : α} {y : β}, Paired F xs ys → F x y → Paired F (xs ++ [x]) (ys ++ [y])
  | _, _, _, _, .nil, h => .cons h .nil
  | _, _, _, _, .cons r t, h => .cons r (pSnoc t h)
/-! ### tables: a dict from numbers to lists of a told form -/
section
variable {ρ : Type} (rv : ρ → List V)
def kD (ks : List (Nat × Addr)) : List (Key × V) := ks.map fun p => ((.inl (p.1 : Int) : Key), V.ref p.2)
def rC (S : Nat → Option ρ) (ks : List (Nat × Addr)) : List Cell := ks.map fun p => lstC p.2 (((S p.1).map rv).getD [])
def upS (S : Nat → Option ρ) (k : Nat) (r : Option ρ) : Nat → Option ρ := fun j => if j = k then r else S j
theorem upS_same (S : Nat → Option ρ) (k : Nat) (r : Option ρ) : upS S k r k = r := if_pos rfl
theorem upS_ne {S : Nat → Option ρ} {j k : Nat} {r : Option ρ} (h : j ≠ k) : upS S k r j = S j := if_neg h
theorem upS_self {S : Nat → Option ρ} {k : Nat} {r : Option ρ} (h : S k = r) : upS S k r = S := funext fun j => by
  unfold upS
  by_cases e : j = k
  · rw [if_pos e, e, h]
  · rw [if_neg e]
theorem upS_upS {S : Nat → Option ρ} {k : Nat} {r r' : Option ρ} : upS (upS S k r) k r' = upS S k r' := funext fun j => by
  unfold upS
  by_cases e : j = k
  · rw [if_pos e, if_pos e]
  · rw [if_neg e, if_neg e, if_neg e]
/-- the dict at d holds the table S, its lists and itself are the block Z -/
def TabB (n : Nat) (d : Addr) (S : Nat → Option ρ) (Z : List Cell) : Prop := ∃ ks : List (Nat × Addr), (ks.map (·.1)).Nodup ∧ (∀ k, k ∈ ks.map (·.1) ↔ (S k).isSome = true) ∧ (∀ k, (S k).isSome = true → k < n) ∧ Z = dctC d (kD ks) :: rC rv S ks
theorem kD_get : ∀ {ks : List (Nat × Addr)} {k : Nat}, (ks.map (·.1)).Nodup → k ∈ ks.map (·.1) → ∃ a, (k, a) ∈ ks ∧ valV (kD ks) (.inl (k : Int)) = some (.ref a)
  | [], _, _, h => by cases h
  | (j, a) :: ks, k, nd, h => by
    by_cases e : j = k
    · subst e
      exact ⟨a, List.mem_cons_self .., valV_pos (p := ((.inl (j : Int) : Key), V.ref a)) (r := kD ks) rfl⟩
    · obtain ⟨b, h1, h2⟩ := kD_get (List.nodup_cons.mp nd).2 ((List.mem_cons.mp h).resolve_left (fun z => e z.symm))
      exact ⟨b, List.mem_cons_of_mem _ h1, (valV_neg (p := ((.inl (j : Int) : Key), V.ref a)) (r := kD ks) (fun z => e (Int.ofNat.inj (Sum.inl.inj z)))).trans h2⟩
theorem kD_none : ∀ {ks : List (Nat × Addr)} {k : Int}, (∀ j ∈ ks.map (·.1), ((j : Nat) : Int) ≠ k) → valV (kD ks) (.inl k) = none
  | [], _, _ => rfl
  | (j, a) :: ks, k, h => by
    refine (valV_neg (p := ((.inl (j : Int) : Key), V.ref a)) (r := kD ks) (fun z => h j (List.mem_cons_self ..) (Sum.inl.inj z))).trans ?_
    exact kD_none fun i hi => h i (List.mem_cons_of_mem _ hi)
theorem rC_perm {S : Nat → Option ρ} : ∀ {ks : List (Nat × Addr)} {k : Nat} {a : Addr}, (ks.map (·.1)).Nodup → (k, a) ∈ ks → (rC rv S ks).Perm (lstC a (((S k).map rv).getD []) :: rC rv S (ks.filter fun p => decide (p.1 ≠ k)))
  | [], _, _, _, h => by cases h
  | (j, b) :: ks, k, a, nd, h => by
    have n := List.nodup_cons.mp nd
    rcases List.mem_cons.mp h with e | h
    · cases e
      have ef : (((j, b) :: ks).filter fun p => decide (p.1 ≠ j)) = ks := by
        rw [List.filter_cons, if_neg (by simp)]
        refine List.filter_eq_self.mpr fun p hp => decide_eq_true fun z => n.1 (by rw [← z]; exact List.mem_map.mpr ⟨p, hp, rfl⟩)
      rw [ef]
      exact List.Perm.refl _
    · have hj : j ≠ k := fun e => n.1 (by rw [e]; exact List.mem_map_of_mem (f := (·.1)) h)
      rw [List.filter_cons, if_pos (decide_eq_true hj)]
      exact (List.Perm.cons _ (rC_perm (S := S) n.2 h)).trans (List.Perm.swap _ _ _)
theorem rC_upS {S : Nat → Option ρ} {k : Nat} {r : Option ρ} : ∀ {ks : List (Nat × Addr)}, rC rv (upS S k r) (ks.filter fun p => decide (p.1 ≠ k)) = rC rv S (ks.filter fun p => decide (p.1 ≠ k)) := fun {ks} => by
  unfold rC
  refine List.map_congr_left fun p hp => ?_
  have h := of_decide_eq_true (List.mem_filter.mp hp).2
  rw [upS_ne h]
variable {rv} {n : Nat} {d : Addr} {S : Nat → Option ρ} {Z : List Cell}
theorem TabB.dct (b : TabB rv n d S Z) : ∃ kv X, Z = dctC d kv :: X := by
  obtain ⟨ks, _, _, _, rfl⟩ := b
  exact ⟨_, _, rfl⟩
theorem TabB.lt {k : Nat} (b : TabB rv n d S Z) (h : (S k).isSome = true) : k < n := by
  obtain ⟨ks, _, _, h3, _⟩ := b
  exact h3 k h
/-- one row of it, to be read or changed -/
theorem TabB.open {k : Nat} {r : ρ} (b : TabB rv n d S Z) (h : S k = some r) : ∃ (ad : Addr) (kv : List (Key × V)) (X : List Cell), valV kv (.inl (k : Int)) = some (.ref ad) ∧ (∀ H R, Hd H (Z ++ R) ↔ Hd H (dctC d kv :: lstC ad (rv r) :: (X ++ R))) ∧
    ∀ r', ∃ Z', TabB rv n d (upS S k (some r')) Z' ∧ ∀ H R, Hd H (dctC d kv :: lstC ad (rv r') :: (X ++ R)) → Hd H (Z' ++ R) := by
  obtain ⟨ks, nd, h1, h2, rfl⟩ := b
  have hk : k ∈ ks.map (·.1) := (h1 k).mpr (by rw [h]; rfl)
  obtain ⟨ad, hm, hg⟩ := kD_get nd hk
  have p1 := rC_perm rv (S := S) nd hm
  rw [h] at p1
  refine ⟨ad, kD ks, rC rv S (ks.filter fun p => decide (p.1 ≠ k)), hg, fun H R => ?_, fun r' => ⟨_, ⟨ks, nd, fun j => ?_, fun j hj => ?_, rfl⟩, fun H R hh => ?_⟩⟩
  · have p2 : (dctC d (kD ks) :: rC rv S ks ++ R).Perm (dctC d (kD ks) :: lstC ad (rv r) :: (rC rv S (ks.filter fun p => decide (p.1 ≠ k)) ++ R)) := List.Perm.cons _ (p1.append_right R)
    exact ⟨fun hh => hh.perm p2, fun hh => hh.perm p2.symm⟩
  · by_cases e : j = k
    · subst e; rw [upS_same]; exact ⟨fun _ => rfl, fun _ => hk⟩
    · rw [upS_ne e]; exact h1 j
  · by_cases e : j = k
    · subst e; exact h2 j (by rw [h]; rfl)
    · rw [upS_ne e] at hj; exact h2 j hj
  · have p1 := rC_perm rv (S := upS S k (some r')) nd hm
    rw [upS_same, rC_upS] at p1
    have p2 : (dctC d (kD ks) :: rC rv (upS S k (some r')) ks ++ R).Perm (dctC d (kD ks) :: lstC ad (rv r') :: (rC rv S (ks.filter fun p => decide (p.1 ≠ k)) ++ R)) := List.Perm.cons _ (p1.append_right R)
    exact hh.perm p2.symm
theorem ks_has {ks : List (Nat × Addr)} (nd : (ks.map (·.1)).Nodup) (h1 : ∀ k, k ∈ ks.map (·.1) ↔ (S k).isSome = true) (h2 : ∀ k, (S k).isSome = true → k < n) : (kD ks).length ≤ n ∧ (∀ k : Nat, (valV (kD ks) (.inl (k : Int))).isSome = (S k).isSome) ∧ ∀ i : Int, i < 0 → (valV (kD ks) (.inl i)).isSome = false := by
  refine ⟨?_, fun k => ?_, fun i hi => ?_⟩
  · unfold kD
    rw [List.length_map, ← List.length_map (as := ks) (f := (·.1))]
    have go : ∀ (n : Nat) (xs : List Nat), xs.Nodup → (∀ a ∈ xs, a < n) → xs.length ≤ n := by
      intro n
      induction n with
      | zero => intro xs _ h; cases xs with
        | nil => exact Nat.le_refl _
        | cons x xs => exact absurd (h x (List.mem_cons_self ..)) (by omega)
      | succ n ih =>
        intro xs nd h
        by_cases hn : n ∈ xs
        · have h1 := ih (xs.erase n) (nd.erase n) fun a ha => by
            have h2 := h a (List.mem_of_mem_erase ha)
            have h3 := ((List.Nodup.mem_erase_iff nd).mp ha).1
            omega
          rw [List.length_erase_of_mem hn] at h1
          omega
        · have h1 := ih xs nd fun a ha => by
            have h2 := h a ha
            have h3 : a ≠ n := fun e => hn (e ▸ ha)
            omega
          omega
    exact go n _ nd fun a ha => h2 a ((h1 a).mp ha)
  · cases e : (S k).isSome with
    | true =>
      obtain ⟨a, _, h3⟩ := kD_get nd ((h1 k).mpr e)
      rw [h3]; rfl
    | false =>
      rw [kD_none fun j hj z => ?_]
      · rfl
      · have : j = k := Int.ofNat.inj z
        subst this
        rw [(h1 j).mp hj] at e
        cases e
  · rw [kD_none fun j hj z => by omega]
    rfl
/-- whether a number is a key -/
theorem TabB.has (b : TabB rv n d S Z) : ∃ (kv : List (Key × V)) (X : List Cell), Z = dctC d kv :: X ∧ kv.length ≤ n ∧ (∀ k : Nat, (valV kv (.inl (k : Int))).isSome = (S k).isSome) ∧ ∀ i : Int, i < 0 → (valV kv (.inl i)).isSome = false := by
  obtain ⟨ks, nd, h1, h2, rfl⟩ := b
  exact ⟨_, _, rfl, ks_has nd h1 h2⟩
/-- a new row -/
theorem TabB.add {k : Nat} (b : TabB rv n d S Z) (hk : k < n) (h : S k = none) : ∃ (kv : List (Key × V)) (X : List Cell), Z = dctC d kv :: X ∧ kv.length ≤ n ∧ (valV kv (.inl (k : Int))).isSome = false ∧ ∀ (ad : Addr) (r : ρ), ∃ Z', TabB rv n d (upS S k (some r)) Z' ∧ ∀ H R, Hd H (dctC d (putK kv (.inl (k : Int)) (.ref ad)) :: lstC ad (rv r) :: (X ++ R)) → Hd H (Z' ++ R) := by
  obtain ⟨ks, nd, h1, h2, rfl⟩ := b
  obtain ⟨hlen, hg, _⟩ := ks_has nd h1 h2
  have hn : k ∉ ks.map (·.1) := fun m => by
    have := (h1 k).mp m
    rw [h] at this
    cases this
  refine ⟨_, _, rfl, hlen, by rw [hg, h]; rfl, fun ad r => ⟨_, ⟨ks ++ [(k, ad)], ?_, fun j => ?_, fun j hj => ?_, rfl⟩, fun H R hh => ?_⟩⟩
  · rw [List.map_append, List.nodup_append]
    refine ⟨nd, by simp, fun x hx y hy e => ?_⟩
    have e3 : y = k := List.mem_singleton.mp hy
    exact hn (by rw [← e3, ← e]; exact hx)
  · rw [List.map_append, List.mem_append]
    by_cases e : j = k
    · subst e; rw [upS_same]; exact ⟨fun _ => rfl, fun _ => .inr (List.mem_singleton.mpr rfl)⟩
    · rw [upS_ne e]
      exact ⟨fun z => (h1 j).mp (z.resolve_right fun z => e (List.mem_singleton.mp z)), fun z => .inl ((h1 j).mpr z)⟩
  · by_cases e : j = k
    · subst e; exact hk
    · rw [upS_ne e] at hj; exact h2 j hj
  · have e1 : putK (kD ks) (.inl (k : Int)) (.ref ad) = kD (ks ++ [(k, ad)]) := by
      have e2 := hg k
      rw [h] at e2
      unfold putK
      rw [valV_any, e2]
      simp [kD]
    have e3 : rC rv (upS S k (some r)) (ks ++ [(k, ad)]) = rC rv S ks ++ [lstC ad (rv r)] := by
      unfold rC
      rw [List.map_append]
      congr 1
      · refine List.map_congr_left fun p hp => ?_
        rw [upS_ne fun z => hn (by rw [← z]; exact List.mem_map_of_mem hp)]
      · show [lstC ad (((upS S k (some r) k).map rv).getD [])] = _
        rw [upS_same]
        rfl
    rw [e1] at hh
    rw [e3]
    refine hh.perm (List.Perm.cons _ ?_)
    show (lstC ad (rv r) :: (rC rv S ks ++ R)).Perm ((rC rv S ks ++ [lstC ad (rv r)]) ++ R)
    rw [List.append_assoc]
    exact List.perm_middle.symm
/-- a row is dropped -/
theorem TabB.del {k : Nat} {r : ρ} (b : TabB rv n d S Z) (h : S k = some r) : ∃ (kv : List (Key × V)) (X : List Cell), Z = dctC d kv :: X ∧ (∃ ad, valV kv (.inl (k : Int)) = some (.ref ad)) ∧ ∃ Z', TabB rv n d (upS S k none) Z' ∧ ∀ H R, Hd H (dctC d (dropK kv (.inl (k : Int))) :: (X ++ R)) → Hd H (Z' ++ R) := by
  obtain ⟨ks, nd, h1, h2, rfl⟩ := b
  have hk : k ∈ ks.map (·.1) := (h1 k).mpr (by rw [h]; rfl)
  obtain ⟨ad, hm, hg⟩ := kD_get nd hk
  have p1 := rC_perm rv (S := S) nd hm
  refine ⟨_, _, rfl, ⟨ad, hg⟩, _, ⟨ks.filter fun p => decide (p.1 ≠ k), ?_, fun j => ?_, fun j hj => ?_, rfl⟩, fun H R hh => ?_⟩
  · exact nd.sublist (List.filter_sublist.map _)
  · by_cases e : j = k
    · subst e
      rw [upS_same]
      refine ⟨fun m => ?_, fun z => by cases z⟩
      obtain ⟨p, hp, e⟩ := List.mem_map.mp m
      exact absurd e (of_decide_eq_true (List.mem_filter.mp hp).2)
    · rw [upS_ne e, ← h1 j]
      constructor
      · intro m
        obtain ⟨p, hp, e⟩ := List.mem_map.mp m
        exact List.mem_map.mpr ⟨p, (List.mem_filter.mp hp).1, e⟩
      · intro m
        obtain ⟨p, hp, e2⟩ := List.mem_map.mp m
        exact List.mem_map.mpr ⟨p, List.mem_filter.mpr ⟨hp, decide_eq_true (by rw [e2]; exact e)⟩, e2⟩
  · by_cases e : j = k
    · subst e; rw [upS_same] at hj; cases hj
    · rw [upS_ne e] at hj; exact h2 j hj
  · have e1 : dropK (kD ks) (.inl (k : Int)) = kD (ks.filter fun p => decide (p.1 ≠ k)) := by
      unfold dropK kD
      rw [List.filter_map]
      congr 1
      refine List.filter_congr fun p _ => ?_
      exact decide_eq_decide.mpr ⟨fun h e => h (congrArg (fun k : Nat => (Sum.inl (k : Int) : Key)) e), fun h e => h (Int.ofNat.inj (Sum.inl.inj e))⟩
    rw [e1] at hh
    rw [rC_upS]
    have hh2 := hh.perm (List.Perm.cons _ (p1.append_right R))
    exact hh2.perm (List.Perm.swap _ _ _) |>.tail
/-- the keys, ascending -/
def keysS (n : Nat) (S : Nat → Option ρ) : List Nat := (List.range n).filter fun k => (S k).isSome
theorem keysS_mem {k : Nat} : k ∈ keysS n S ↔ k < n ∧ (S k).isSome = true := by
  unfold keysS
  rw [List.mem_filter, List.mem_range]
theorem keysS_asc : (keysS n S).Pairwise (· < ·) := (List.pairwise_lt_range (n := n)).sublist List.filter_sublist
theorem asc_one : ∀ {xs ys : List Nat}, xs.Pairwise (· < ·) → ys.Pairwise (· < ·) → (∀ a, a ∈ xs ↔ a ∈ ys) → xs = ys
  | [], [], _, _, _ => rfl
  | [], y :: ys, _, _, h => absurd ((h y).mpr (List.mem_cons_self ..)) (List.not_mem_nil)
  | x :: xs, [], _, _, h => absurd ((h x).mp (List.mem_cons_self ..)) (List.not_mem_nil)
  | x :: xs, y :: ys, h1, h2, h => by
    have p1 := List.pairwise_cons.mp h1
    have p2 := List.pairwise_cons.mp h2
    have e : x = y := by
      rcases List.mem_cons.mp ((h x).mp (List.mem_cons_self ..)) with z | z
      · exact z
      · rcases List.mem_cons.mp ((h y).mpr (List.mem_cons_self ..)) with z2 | z2
        · exact z2.symm
        · have a := p2.1 x z
          have b := p1.1 y z2
          omega
    subst e
    rw [asc_one p1.2 p2.2 fun a => ?_]
    constructor
    · intro ha
      rcases List.mem_cons.mp ((h a).mp (List.mem_cons_of_mem _ ha)) with z | z
      · have := p1.1 a ha; omega
      · exact z
    · intro ha
      rcases List.mem_cons.mp ((h a).mpr (List.mem_cons_of_mem _ ha)) with z | z
      · have := p2.1 a ha; omega
      · exact z
/-- whatever is a sorted list of the dict's keys is keysS -/
theorem TabB.sorted (b : TabB rv n d S Z) : ∃ (ks : List Nat) (kv : List (Key × V)) (X : List Cell), Z = dctC d kv :: X ∧ kv.map (·.1) = (ks.map fun k : Nat => (k : Int)).map Sum.inl ∧ (kv.map fun q => kV q.1) = (ks.map fun k : Nat => (k : Int)).map V.int ∧ ks.length ≤ n ∧
    ∀ ns : List Int, ns.Perm (ks.map fun k : Nat => (k : Int)) → ns.Pairwise (· ≤ ·) → ns = (keysS n S).map fun k : Nat => (k : Int) := by
  obtain ⟨ks, nd, h1, h2, rfl⟩ := b
  obtain ⟨hl, _, _⟩ := ks_has nd h1 h2
  refine ⟨ks.map (·.1), _, _, rfl, ?_, ?_, ?_, fun ns hp hs => ?_⟩
  · unfold kD
    rw [List.map_map, List.map_map, List.map_map]
    rfl
  · unfold kD
    rw [List.map_map, List.map_map, List.map_map]
    rfl
  · rw [List.length_map]
    unfold kD at hl
    rw [List.length_map] at hl
    exact hl
  · have hpos : ∀ x ∈ ns, ∃ k : Nat, x = (k : Int) := fun x hx => by
      obtain ⟨k, _, e⟩ := List.mem_map.mp (hp.mem_iff.mp hx)
      exact ⟨k, e.symm⟩
    have e : ns = (ns.map Int.toNat).map (fun k : Nat => (k : Int)) := by
      rw [List.map_map]
      refine (List.map_id ns).symm.trans (List.map_congr_left fun x hx => ?_)
      obtain ⟨k, rfl⟩ := hpos x hx
      rfl
    have hp2 : (ns.map Int.toNat).Perm (ks.map (·.1)) := by
      have := hp.map Int.toNat
      rw [List.map_map] at this
      have e2 : List.map (Int.toNat ∘ fun k : Nat => (k : Int)) (ks.map (·.1)) = ks.map (·.1) := (List.map_congr_left fun x _ => rfl).trans (List.map_id _)
      rw [e2] at this
      exact this
    have nd2 := hp2.nodup_iff.mpr nd
    rw [e]
    congr 1
    refine asc_one ?_ keysS_asc fun a => ?_
    · rw [e, List.pairwise_map] at hs
      exact (hs.and nd2).imp fun {a b} ⟨x, y⟩ => by omega
    · rw [hp2.mem_iff, keysS_mem, h1 a]
      exact ⟨fun z => ⟨h2 a z, z⟩, fun z => z.2⟩
theorem TabB.nil (n : Nat) (d : Addr) : TabB rv n d (fun _ => none) [dctC d []] := ⟨[], List.nodup_nil, fun k => ⟨fun h => (by cases h), fun h => (by cases h)⟩, fun k h => (by cases h), rfl⟩
end
end Wk
set_option Elab.async false
set_option linter.all false
set_option maxRecDepth 100000
set_option maxHeartbeats 4000000
/-! Wk: loops and comprehensions over lists and over enumerate of lists, with any targets. -/
namespace Wk
open PySem PySem.Spec PyProof.Rows L2
def KForE (K : PySem.W.Frag) (g : TG) (tb : TS) (D : Ends) (σ : L2.St) (vs : List V) (H : Hp) : Prop := ∃ a xs, vs = [.ref a] ∧ SqL K H a xs ∧ KFor (Ite K a) g tb D σ H
section
variable {K : PySem.W.Frag} {σ : L2.St} {H : Hp} {Q : VK} {L : List Cell} {te : TE} {ta : TA} {tt : TT} {tb : TS} {D : Ends} {g : TG} {us : List Nat} {a : Addr} {xs : List V}
theorem w_forE (h : ta σ H fun vs H1 => KForE K g tb D σ vs H1) : tFor (iEnum K ta) g tb D σ H := h
theorem l_enumG (h : SqL K H a xs) (Pv : Nat → L2.St → Hp → Prop) (h0 : Pv 0 σ H) (hl : ∀ i σ H, i ≤ xs.length → Pv i σ H → SqL K H a xs)
    (hs : ∀ (i : Nat) (y : V) (T : Addr) (σ : L2.St) (H : Hp), xs[i]? = some y → Pv i σ H → H T = none → g (.ref T) σ (upd H T (.tup [.int (i : Nat), y])) fun σ2 H2 => tb { D with nx := Pv (i + 1), ct := Pv (i + 1), bk := D.nx } σ2 H2)
    (hd : ∀ σ H, Pv xs.length σ H → D.nx σ H) : KForE K g tb D σ [.ref a] H := by
  refine ⟨a, xs, rfl, h, fun i m σ H => m = xs.length - i ∧ i ≤ xs.length ∧ Pv i σ H, ⟨xs.length, rfl, Nat.zero_le _, h0⟩, ?_⟩
  rintro i m σ H ⟨rfl, hi, p⟩
  have qy := hl i σ H hi p
  by_cases hlt : i < xs.length
  · refine .inr ⟨⟨xs, xs[i], qy, List.getElem?_eq_getElem hlt⟩, Pv (i + 1), fun σ' H' p' => ⟨xs.length - (i + 1), by omega, rfl, hlt, p'⟩, fun v H' y => ?_⟩
    obtain ⟨T, y', rfl, hT, rfl, f2⟩ := y
    exact hs i y' T σ H (f2 xs qy) p hT
  · have e : i = xs.length := by omega
    subst e
    exact .inl ⟨⟨xs, qy, Nat.le_refl _⟩, hd σ H p⟩
theorem l_listG (h : SqL K H a xs) (Pv : Nat → L2.St → Hp → Prop) (h0 : Pv 0 σ H) (hl : ∀ i σ H, i ≤ xs.length → Pv i σ H → SqL K H a xs)
    (hs : ∀ i y σ H, xs[i]? = some y → Pv i σ H → g y σ H fun σ2 H2 => tb { D with nx := Pv (i + 1), ct := Pv (i + 1), bk := D.nx } σ2 H2) (hd : ∀ σ H, Pv xs.length σ H → D.nx σ H) : KForL K g tb D σ (.ref a) H :=
  ⟨a, rfl, ⟨xs, h⟩, for_list (K := K) (a := a) (xs := xs) Pv h0 hl hs hd⟩
theorem lc_EG (h : SqL K H a xs) (Pv : Nat → Addr → Hp → Prop) (h0 : ∀ D H1, New H H1 D (.lst []) → Pv 0 D H1) (hl : ∀ i D H, i ≤ xs.length → Pv i D H → SqL K H a xs)
    (hs : ∀ (i : Nat) x T D H, xs[i]? = some x → Pv i D H → H T = none → g (.ref T) (wipe σ us) (upd H T (.tup [.int (i : Nat), x])) fun σ2 H2 => wipe σ2 us = wipe σ us ∧ tt σ2 H2 fun b H3 => if b = true then te σ2 H3 (KApp D (Pv (i + 1) D)) else Pv (i + 1) D H3)
    (hd : ∀ D H, Pv xs.length D H → Q (.ref D) H) : KLcE K g tt te us σ Q [.ref a] H := by
  refine ⟨a, xs, rfl, h, fun D hD => ?_⟩
  refine lc_it walk_enum (fun i H => Pv i D H) (h0 D _ (New.of hD)) (fun i H hi p => hl i D H hi p) (fun i x H H' hi p y => ?_) fun H p => hd D H p
  obtain ⟨T, u, v, rfl, hT, rfl, hu, hv⟩ := y
  cases hu
  exact hs i v T D H hv p hT
theorem lc_LG (h : SqL K H a xs) (Pv : Nat → Addr → Hp → Prop) (h0 : ∀ D H1, New H H1 D (.lst []) → Pv 0 D H1) (hl : ∀ i D H, i ≤ xs.length → Pv i D H → SqL K H a xs)
    (hs : ∀ (i : Nat) x D H, xs[i]? = some x → Pv i D H → g x (wipe σ us) H fun σ2 H2 => wipe σ2 us = wipe σ us ∧ tt σ2 H2 fun b H3 => if b = true then te σ2 H3 (KApp D (Pv (i + 1) D)) else Pv (i + 1) D H3)
    (hd : ∀ D H, Pv xs.length D H → Q (.ref D) H) : KLcL K g tt te us σ Q (.ref a) H := by
  refine ⟨a, rfl, ⟨xs, h⟩, fun D hD => ?_⟩
  refine lc_it walk_list (fun i H => Pv i D H) (h0 D _ (New.of hD)) (fun i H hi p => hl i D H hi p) (fun i x H H' hi p y => ?_) fun H p => hd D H p
  obtain ⟨rfl, hx⟩ := y
  exact hs i x D _ hx p
theorem g_lcEG (hh : Hd H L) (h : SqL K H a xs) (Pv : Nat → Addr → Hp → Prop) (h0 : ∀ D H1, Hd H1 (lstC D [] :: L) → Pv 0 D H1) (hl : ∀ i D H, i ≤ xs.length → Pv i D H → SqL K H a xs)
    (hs : ∀ (i : Nat) x T D H, xs[i]? = some x → Pv i D H → H T = none → g (.ref T) (wipe σ us) (upd H T (.tup [.int (i : Nat), x])) fun σ2 H2 => wipe σ2 us = wipe σ us ∧ tt σ2 H2 fun b H3 => if b = true then te σ2 H3 (KApp D (Pv (i + 1) D)) else Pv (i + 1) D H3)
    (hd : ∀ D H, Pv xs.length D H → Q (.ref D) H) : KLcE K g tt te us σ Q [.ref a] H := lc_EG h Pv (fun D H1 nn => h0 D H1 (hh.newL nn)) hl hs hd
theorem g_lcLG (hh : Hd H L) (h : SqL K H a xs) (Pv : Nat → Addr → Hp → Prop) (h0 : ∀ D H1, Hd H1 (lstC D [] :: L) → Pv 0 D H1) (hl : ∀ i D H, i ≤ xs.length → Pv i D H → SqL K H a xs)
    (hs : ∀ (i : Nat) x D H, xs[i]? = some x → Pv i D H → g x (wipe σ us) H fun σ2 H2 => wipe σ2 us = wipe σ us ∧ tt σ2 H2 fun b H3 => if b = true then te σ2 H3 (KApp D (Pv (i + 1) D)) else Pv (i + 1) D H3)
    (hd : ∀ D H, Pv xs.length D H → Q (.ref D) H) : KLcL K g tt te us σ Q (.ref a) H := lc_LG h Pv (fun D H1 nn => h0 D H1 (hh.newL nn)) hl hs hd
end
end Wk
set_option Elab.async false
set_option linter.all false
set_option maxRecDepth 100000
set_option maxHeartbeats 4000000
/-! Wk: sorted(xs), xs a list of tuples of plain data; x not in o by an own __contains__. -/
namespace Wk
open PySem PySem.Spec PyProof.Rows L2
/-- sorted(xs), xs a list of data that are told apart alike -/
def rSortD (K : PySem.W.Frag) : List V → Hp → VK → Prop := fun vs H Q => ∃ (a : Addr) (bs : List (V × PyData)), vs = [V.ref a] ∧ SqL K H a (bs.map (·.1)) ∧ (∀ b ∈ bs, Dp K H b.1 b.2) ∧ PySem.W.AllAlike (bs.map (·.2)) ∧ PySem.W.Sortable (bs.map (·.2)) ∧ (∀ b ∈ bs, b.2.depth ≤ 60) ∧
  ∀ (ys : List (V × PyData)) (p : Addr), ys.Perm bs → ys.Pairwise (fun b c => PySem.W.dataLe false (fun z : V × PyData => z.2) b c = true) → H p = none → Q (.ref p) (upd H p (.lst (ys.map (·.1))))
theorem each_of_vals {K : PySem.W.Frag} : ∀ {bs : List (V × PyData)} {us : List Value}, Vals (bs.map (·.1)) us → PySem.W.EachIs (fun (u : Value) (b : V × PyData) => RelV b.1 u) us bs
  | [], [], .nil => .nil
  | _ :: _, _ :: _, .cons r t => .cons r (each_of_vals (K := K) t)
theorem vals_of_each : ∀ {bs : List (V × PyData)} {us : List Value}, PySem.W.EachIs (fun (u : Value) (b : V × PyData) => RelV b.1 u) us bs → Vals (bs.map (·.1)) us
  | _, _, .nil => .nil
  | _, _, .cons r t => .cons r (vals_of_each t)
theorem each_reads {X : Cx} {pins : List (Addr × Obj)} {σ : L2.St} {H : Hp} {s : Shared} (I : Inv X pins σ H s) : ∀ {bs : List (V × PyData)} {us : List Value}, PySem.W.EachIs (fun (u : Value) (b : V × PyData) => RelV b.1 u) us bs → (∀ b ∈ bs, Dp X.K H b.1 b.2) → PySem.W.EachIs (fun (u : Value) (b : V × PyData) => ∃ as, Reads s.heap u b.2 as) us bs
  | _, _, .nil, _ => .nil
  | b :: bs, _ :: _, .cons r t, h => .cons (Dp.reads I b.2 b.1 _ (h b (List.mem_cons_self ..)) r) (each_reads I t fun c hc => h c (List.mem_cons_of_mem _ hc))
section
variable {X : Cx}
theorem cr_sortedDat (hu : X.A.units + 64 < cLine) : CallR X (.builtin "sorted") (rSortD X.K) := by
  intro pins s σ H vs us Q I r h
  obtain ⟨a, bs, rfl, hs, hd, hal, hk, hdep, q⟩ := h
  obtain ⟨its, rv, hl, hz⟩ := I.list hs
  rw [Vals.ref1 r]
  have e := each_of_vals (K := X.K) rv
  have er := each_reads I e hd
  have hlen : bs.length ≤ sizeLine := by rw [List.length_map] at hz; exact hz
  refine PySem.W.sorted_data (enc := fun b : V × PyData => b.2) hl.isList e er hal hk hlen (fun b hb => by have := hdep b hb; show X.A.units + 2 + b.2.depth < cLine; omega) fun out ho eo => ?_
  obtain ⟨ep, he'⟩ := PyProof.Rows.sortedAll_at s.heap its out.toArray
  have hp : (bs.mergeSort (PySem.W.dataLe false fun b : V × PyData => b.2)).Perm bs := List.mergeSort_perm ..
  exact ⟨.ref _, upd H (s.heap.objs.size + 1) (.lst ((bs.mergeSort (PySem.W.dataLe false fun b : V × PyData => b.2)).map (·.1))), I.laid (t' := s.toks) (fun _ _ => PyProof.Rows.sortedAll_old) (Nat.le_succ _) ⟨by rw [List.length_map, hp.length_eq]; exact hlen, out, ep, vals_of_each eo, he'⟩, rfl,
    q _ _ hp (PySem.W.sort_pairwise (PySem.W.sortLe_total _ _ _) _) (I.hok.fresh (Nat.le_succ _))⟩
end
/-- tuples with whole numbers ahead: in order by these -/
theorem le_head {b c : V × PyData} {x y : Int} {r r' : List PyData} (hb : b.2 = .tuple (.int x :: r)) (hc : c.2 = .tuple (.int y :: r')) (h : PySem.W.dataLe false (fun z : V × PyData => z.2) b c = true) : x ≤ y := by
  have h : (!PySem.W.dataLt c.2 b.2) = true := h
  rw [hb, hc, PySem.W.dataLt_tuple, PySem.W.dataLt_cons (by simp [PySem.W.alike])] at h
  by_cases e : y < x
  · rw [if_neg (by simp only [PyData.eqv, beq_iff_eq]; omega), PySem.W.dataLt_int, decide_eq_true e] at h
    cases h
  · omega
/-! ### x not in o -/
def rNotInOwn (C : Addr) (sp : Sp) : R2 := fun x y H Q => ∃ a dx fs, y = .ref a ∧ H a = some (.ins C dx fs) ∧ sp [.ref a, x] H (fun v H' => ∃ b, v = .bl b ∧ Q (.bl (!b)) H') C8.E0
theorem op_notin_own {X : Cx} {k j : Nat} {C : Addr} {sp : Sp} (c : C8.Met X.prog X.w X.K X.mg X.base k C "__contains__" sp []) (hr : Room j X.A) (hk : k ≤ j) : OpR X (compareOp .NotIn) (rNotInOwn C sp) := by
  intro pins s σ H x y v u Q I rx ry h
  obtain ⟨a, dx, fs, rfl, e, q⟩ := h
  cases ry
  show wpAny _ _ (contains (.ref a) v >>= _) _ _ _
  refine wpAny_bind (contains_own c hr hk I rx e q fun b H' s' I' hq => ?_)
  exact wpAny_pure ⟨.bl (!b), H', I', rfl, hq⟩
end Wk
set_option Elab.async false
set_option linter.all false
set_option maxRecDepth 100000
set_option maxHeartbeats 4000000
/-! Wk: C.m(..), m a static method of an own class: by place, by keywords alone, where it may raise. -/
namespace Wk
open PySem PySem.Spec PyProof.Rows L2
/-- C.m is a static method: its record at p, its def at g -/
structure SMet (K : PySem.W.Frag) (C : Addr) (m : Str) (p g : Addr) : Prop where
  rd : PySem.W.readsIn K C (.type "type") = true
  ga : PySem.W.specialIn K (.ref C) "__getattribute__" = some (some (.builtin "type.__getattribute__"))
  at_ : PySem.W.findCls K (.ref C) (.type "type") m = some (.get (.builtin "staticmethod.__get__") (.ref p) .none (.ref C))
  rc : ∃ rest, PySem.W.recIn K p "staticmethod" = some (.ref g :: rest)
/-- such a def: by place (dvs fill up); by keywords alone; where it may raise -/
structure CalS (P : Program) (w : World) (K : PySem.W.Frag) (mg : Str → Option Value) (base : Heap) (k : Nat) (C : Addr) (m : Str) (sp : Sp) (dvs : List V) : Prop where
  ex : ∃ (p f : Addr) (fd : FuncData) (ps : List Str) (ds : List Value), SMet K C m p f ∧ FnOk P w K mg base C8.CX0 k f fd ps sp ∧ PySem.W.keepIn K (.ref f) = true ∧ Binds K fd ps ds ∧ Vals dvs ds
structure CalSK (P : Program) (w : World) (K : PySem.W.Frag) (mg : Str → Option Value) (base : Heap) (k : Nat) (C : Addr) (m : Str) (sp : Sp) (ks : List Str) (gV : List V → List V → List V) : Prop where
  ex : ∃ (p f : Addr) (fd : FuncData) (ps : List Str) (g : List Value → List Value → List Value), SMet K C m p f ∧ FnOk P w K mg base C8.CX0 k f fd ps sp ∧ PySem.W.keepIn K (.ref f) = true ∧ KBn K fd ps 0 ks g gV
structure CalSN (P : Program) (w : World) (K : PySem.W.Frag) (mg : Str → Option Value) (base : Heap) (k : Nat) (C : Addr) (m : Str) (sp : Sp) : Prop where
  ex : ∃ (p f : Addr) (fd : FuncData) (ps : List Str), SMet K C m p f ∧ FnOk P w K mg base (L2N.CX P w) k f fd ps sp ∧ PySem.W.keepIn K (.ref f) = true ∧ Binds K fd ps []
def tSt (C : Addr) (sp : Sp) (dvs : List V) (E : XK) (ta : TE) (t : TA) : TE := fun σ H Q => ta σ H fun x H1 => x = .ref C ∧ t σ H1 fun vs H2 => sp (vs ++ dvs) H2 Q E
def tStK (C : Addr) (n : Nat) (sp : Sp) (gV : List V → List V → List V) (E : XK) (ta : TE) (tk : TA) : TE := fun σ H Q => ta σ H fun x H1 => x = .ref C ∧ tk σ H1 fun zs H2 => zs.length = n ∧ sp (gV [] zs) H2 Q E
def tStS (C : Addr) (sp : Sp) (E : L2.St → XK) (ta : TE) (t : TA) : TE := fun σ H Q => ta σ H fun x H1 => x = .ref C ∧ t σ H1 fun vs H2 => sp vs H2 Q (E σ)
section
variable {X : Cx} {pins : List (Addr × Obj)} {σ : L2.St} {H : Hp} {s : Shared} {C p g : Addr} {m : Str} {A : Around} {E : Value → Shared → Prop}
theorem getst_ok {pl : Sem Bool} {Q : Value × List Value → Shared → Prop} (I : Inv X pins σ H s) (k : SMet X.K C m p g) (h : ∀ s', Inv X pins σ H s' → Q (.ref g, []) s') : wpAny (model X.prog X.w) A (getMethod (.ref C) m pl) Q E s := by
  obtain ⟨rest, hp⟩ := k.rc
  refine PySem.W.method_cls I.kIn k.ga ?_
  refine PySem.W.cls_bind I.kIn k.rd k.at_ ?_
  exact wpAny_call (PySem.W.sm_get (s := { s with toks := s.toks + 1 }) I.kIn hp (PySem.W.handed_on rfl (h _ (I.tok _))))
end
section
variable {X : Cx} {j k : Nat} {C : Addr} {m : Str} {sp : Sp} {dvs : List V} {ks : List Str} {gV : List V → List V → List V} {o e : Expr} {es : List Expr} {kws : List Keyword} {ta : TE} {t tk : TA} {pos apos : Pos} {W : WX}
theorem pe_st {pl : Sem Bool} (c : CalS X.prog X.w X.K X.mg X.base k C m sp dvs) (hr : Room j X.A) (hk : k ≤ j) (he : PE X o ta) (ha : PA X (e :: es) t)
    (hst : starEach (e :: es) X.env = (false, eval e X.env) :: starEach es X.env := by rfl) (hpl : (backTo pos (starEach es X.env)).any (·.1) = false := by rfl)
    (ht : eval (.Call (.Attribute o m apos) (e :: es) [] pos) X.env = (do
      let ov ← eval o X.env
      standAt apos.atName
      let (f, first) ← holding [ov] (getMethod ov m pl)
      callWith pos f first (backTo pos (starEach (e :: es) X.env)) (backToKw pos (keywordEach [] X.env))) := by rfl) :
    PE X (.Call (.Attribute o m apos) (e :: es) [] pos) (tSt C sp dvs C8.E0 ta t) := by
  obtain ⟨p, f, fd, ps, ds, sm, F, kp, b, d⟩ := c.ex
  refine ⟨fun pins s σ H Q I h => ?_⟩
  refine PySem.W.methodCall_KW (pl := pl) (thn (he.run pins s σ H _ I h) fun u s1 ⟨x, H1, I1, rx, ex, q⟩ => ?_) ht
  subst ex
  obtain rfl : u = Value.ref C := rx
  refine getst_ok I1 sm fun s2 I2 => ?_
  refine PySem.W.callWith_K (first := []) (h₀ := X.base) I.ok.mod.kin kp (thn (ha.run pos pins s2 σ H1 _ I2 q) fun us s3 ⟨vs, H2, I3, r, q2⟩ => ⟨I3.kIn, ?_⟩) hst hpl
  exact run_fn F (hr.mono hk) b d C8.pass0 I3 r q2
theorem pe_stK {pl : Sem Bool} (c : CalSK X.prog X.w X.K X.mg X.base k C m sp ks gV) (hr : Room j X.A) (hk : k ≤ j) (he : PE X o ta) (hkw : PK X kws tk)
    (hall : (backToKw pos (keywordEach kws X.env)).all (·.1.isSome) = true := by rfl) (hks : (backToKw pos (keywordEach kws X.env)).filterMap (·.1) = ks := by rfl)
    (hpl : ((backTo pos (starEach [] X.env)).any (·.1) || (backToKw pos (keywordEach kws X.env)).any (·.1.isNone)) = false := by rfl)
    (ht : eval (.Call (.Attribute o m apos) [] kws pos) X.env = (do
      let ov ← eval o X.env
      standAt apos.atName
      let (f, first) ← holding [ov] (getMethod ov m pl)
      callWith pos f first (backTo pos (starEach [] X.env)) (backToKw pos (keywordEach kws X.env))) := by rfl) :
    PE X (.Call (.Attribute o m apos) [] kws pos) (tStK C ks.length sp gV C8.E0 ta tk) := by
  obtain ⟨p, f, fd, ps, g, sm, F, kp, b⟩ := c.ex
  refine ⟨fun pins s σ H Q I h => ?_⟩
  refine PySem.W.methodCall_KW (pl := pl) (thn (he.run pins s σ H _ I h) fun u s1 ⟨x, H1, I1, rx, ex, q⟩ => ?_) ht
  subst ex
  obtain rfl : u = Value.ref C := rx
  refine getst_ok I1 sm fun s2 I2 => ?_
  refine PySem.W.callWith_KW0 (h₀ := X.base) I.ok.mod.kin kp hall ?_ hpl
  refine thn (hkw.run pos pins s2 σ H1 _ I2 q) fun ws s3 ⟨zs, H2, I3, rz, l2, q2⟩ => ⟨I3.kIn, ?_⟩
  rw [hks]
  exact run_fnN F (hr.mono hk) b C8.pass0 I3 .nil rz rfl l2 q2
theorem pe_stN {pl : Sem Bool} (c : CalSN X.prog X.w X.K X.mg X.base k C m sp) (hr : Room j X.A) (hk : k ≤ j) (tk : L2N.Takes X W) (he : PE X o ta) (ha : PA X (e :: es) t)
    (hst : starEach (e :: es) X.env = (false, eval e X.env) :: starEach es X.env := by rfl) (hpl : (backTo pos (starEach es X.env)).any (·.1) = false := by rfl)
    (ht : eval (.Call (.Attribute o m apos) (e :: es) [] pos) X.env = (do
      let ov ← eval o X.env
      standAt apos.atName
      let (f, first) ← holding [ov] (getMethod ov m pl)
      callWith pos f first (backTo pos (starEach (e :: es) X.env)) (backToKw pos (keywordEach [] X.env))) := by rfl) :
    PE X (.Call (.Attribute o m apos) (e :: es) [] pos) (tStS C sp (WE W) ta t) := by
  obtain ⟨p, f, fd, ps, sm, F, kp, b⟩ := c.ex
  refine ⟨fun pins s σ H Q I h => ?_⟩
  refine PySem.W.methodCall_KW (pl := pl) (thn (he.run pins s σ H _ I h) fun u s1 ⟨x, H1, I1, rx, ex, q⟩ => ?_) ht
  subst ex
  obtain rfl : u = Value.ref C := rx
  refine getst_ok I1 sm fun s2 I2 => ?_
  refine PySem.W.callWith_K (first := []) (h₀ := X.base) I.ok.mod.kin kp (thn (ha.run pos pins s2 σ H1 _ I2 q) fun us s3 ⟨vs, H2, I3, r, q2⟩ => ⟨I3.kIn, ?_⟩) hst hpl
  exact run_fnS F (hr.mono hk) b (fun pins H s e s' I x => L2N.passAt tk σ pins H s e s' I x) I3 r q2
end
/-! ### steps -/
def KSt (C : Addr) (sp : Sp) (dvs : List V) (E : XK) (t : TA) (σ : L2.St) (Q : VK) (x : V) (H1 : Hp) : Prop := x = .ref C ∧ t σ H1 fun vs H2 => sp (vs ++ dvs) H2 Q E
section
variable {C : Addr} {sp : Sp} {dvs : List V} {E : XK} {Es : L2.St → XK} {ta : TE} {t : TA} {σ : L2.St} {H : Hp} {Q : VK} {v : V} {n : Nat} {gV : List V → List V → List V}
theorem w_st (h : t σ H fun vs H2 => sp (vs ++ dvs) H2 Q E) : tSt C sp dvs E (tC (.ref C)) t σ H Q := ⟨rfl, h⟩
theorem w_stK (h : t σ H fun zs H2 => zs.length = n ∧ sp (gV [] zs) H2 Q E) : tStK C n sp gV E (tC (.ref C)) t σ H Q := ⟨rfl, h⟩
theorem w_stS (h : t σ H fun vs H2 => sp vs H2 Q (Es σ)) : tStS C sp Es (tC (.ref C)) t σ H Q := ⟨rfl, h⟩
end
end Wk
set_option Elab.async false
set_option linter.all false
set_option maxRecDepth 100000
set_option maxHeartbeats 4000000
namespace K24
open PySem PySem.Spec PyProof.Rows L2 Wk
def top (i : Nat) : Stmt := PySem.Challenge.pw_wardwork_k24_wait_within_the_bound.main.body.getD i (.Pass ⟨0, 0, 0, 0⟩)
/-- what the top leaves that the defs lean on -/
structure Txt (K : PySem.W.Frag) (mg : Str → Option Value) (aREG aOPS : Addr) : Prop extends Bt mg where
abbrev FunT (K : PySem.W.Frag) (x : Str) (st : Stmt) (f : Addr) (fd : FuncData) : Prop := FunD K x x (defArgs st) (defBody st) (defScope st) [] [] f fd
/-- a def of the module that stands under its name -/
def DefAt (K : PySem.W.Frag) (mg : Str → Option Value) (x : Str) (st : Stmt) : Prop := ∃ f fd, FunT K x st f fd ∧ mg x = some (.ref f)
/-- the same, with its code object -/
def DefAtC (K : PySem.W.Frag) (mg : Str → Option Value) (x : Str) (st : Stmt) (c : Addr) : Prop := ∃ f fd, (FunT K x st f fd ∧ fd.code = .ref c) ∧ mg x = some (.ref f)
section
variable {P : Program} {w : World} {K : PySem.W.Frag} {mg : Str → Option Value} {base : Heap} {aREG aOPS : Addr}
theorem mk {x : Str} {st : Stmt} {N ps : List Str} {k : Nat} {sp : Sp} (d : DefAt K mg x st) (S : FnScope N ps (defScope st))
    (hb : ∀ (kV doc pm : Value) (an : Option Addr) (cdv ct : Value) (us : List Value), us.length = ps.length → bindArgs (PySem.W.fnOf x x (defArgs st) (defBody st) (defScope st) .none kV doc pm an cdv ct) ⟨us, []⟩ = pure (ps.zip us))
    (len : ∀ vs H Q E, sp vs H Q E → vs.length = ps.length)
    (body : ∀ (f : Addr) (cdv : Value) (A : Around) (outer : List Env) (s : Shared) (H : Hp) (vs : List V) (Q : VK) (E : XK), Room k (A.deeper (envOfC x (defScope st) s.heap.objs.size f cdv)) → sp vs H Q E →
      ∃ t, PSs (cxOf CX0 P w K mg base N x (defScope st) f cdv A outer s H E).nox (defBody st) t ∧ t { nx := fun _ H' => Q .non H', rt := Q } (start N vs) H) : C8.Cal P w K mg base (k + 1) x sp [] := by
  obtain ⟨f, fd, F, hm⟩ := d
  refine ⟨f, fd, ps, [], F.ok S len (fun cdv A outer s H vs Q E hr hsp => ?_), hm, F.kp, F.bindsN hb, .nil⟩
  obtain ⟨t, h, q⟩ := body f cdv A outer s H vs Q E hr hsp
  exact ⟨t, h.nox, q⟩
theorem mkC {x : Str} {st : Stmt} {c : Addr} {N ps : List Str} {k : Nat} {sp : Sp} (d : DefAtC K mg x st c) (S : FnScope N ps (defScope st))
    (hb : ∀ (kV doc pm : Value) (an : Option Addr) (cdv ct : Value) (us : List Value), us.length = ps.length → bindArgs (PySem.W.fnOf x x (defArgs st) (defBody st) (defScope st) .none kV doc pm an cdv ct) ⟨us, []⟩ = pure (ps.zip us))
    (len : ∀ vs H Q E, sp vs H Q E → vs.length = ps.length)
    (body : ∀ (f : Addr) (A : Around) (outer : List Env) (s : Shared) (H : Hp) (vs : List V) (Q : VK) (E : XK), Room k (A.deeper (envOfC x (defScope st) s.heap.objs.size f (.ref c))) → sp vs H Q E →
      ∃ t, PSs (cxOf CX0 P w K mg base N x (defScope st) f (.ref c) A outer s H E).nox (defBody st) t ∧ t { nx := fun _ H' => Q .non H', rt := Q } (start N vs) H) : C8.Cal P w K mg base (k + 1) x sp [] := by
  obtain ⟨f, fd, ⟨F, hc⟩, hm⟩ := d
  refine ⟨f, fd, ps, [], ?_, hm, F.kp, F.bindsN hb, .nil⟩
  obtain ⟨oc, od, dV, kV, doc, pm, an, cdv, ct, osl, rfl, lk, hcd, _, _⟩ := F.ex
  cases (show cdv = .ref c from hc)
  exact fn_of lk hcd S len fun A outer s H vs Q E hr hsp => let ⟨t, h, q⟩ := body f A outer s H vs Q E hr hsp; ⟨t, h.nox, q⟩
theorem mkF {x : Str} {st : Stmt} {N ps : List Str} {k : Nat} {sp : Sp} {f : Addr} {fd : FuncData} (F : FunT K x st f fd) (S : FnScope N ps (defScope st))
    (len : ∀ vs H Q E, sp vs H Q E → vs.length = ps.length)
    (body : ∀ (f : Addr) (cdv : Value) (A : Around) (outer : List Env) (s : Shared) (H : Hp) (vs : List V) (Q : VK) (E : XK), Room k (A.deeper (envOfC x (defScope st) s.heap.objs.size f cdv)) → sp vs H Q E →
      ∃ t, PSs (cxOf CX0 P w K mg base N x (defScope st) f cdv A outer s H E).nox (defBody st) t ∧ t { nx := fun _ H' => Q .non H', rt := Q } (start N vs) H) : FnOk P w K mg base CX0 (k + 1) f fd ps sp :=
  F.ok S len fun cdv A outer s H vs Q E hr hsp => let ⟨t, h, q⟩ := body f cdv A outer s H vs Q E hr hsp; ⟨t, h.nox, q⟩
abbrev s__law_mixed : Stmt := top 25
abbrev nm__law_mixed : List Str := ["number", "turn", "many", "first", "second", "third"]
theorem sc__law_mixed : FnScope nm__law_mixed ["number", "turn", "many"] (defScope s__law_mixed) := ⟨rfl, rfl, rfl, by decide +kernel, rfl, by decide +kernel, by decide +kernel⟩
abbrev s__law_store : Stmt := top 26
abbrev nm__law_store : List Str := ["script", "salt", "seed", "cell"]
theorem sc__law_store : FnScope nm__law_store ["script", "salt"] (defScope s__law_store) := ⟨rfl, rfl, rfl, by decide +kernel, rfl, by decide +kernel, by decide +kernel⟩
abbrev s__law_take : Stmt := top 27
abbrev nm__law_take : List Str := ["store", "many", "cell", "digit"]
theorem sc__law_take : FnScope nm__law_take ["store", "many"] (defScope s__law_take) := ⟨rfl, rfl, rfl, by decide +kernel, rfl, by decide +kernel, by decide +kernel⟩
abbrev s__law_pick : Stmt := top 28
abbrev nm__law_pick : List Str := ["store", "row"]
theorem sc__law_pick : FnScope nm__law_pick ["store", "row"] (defScope s__law_pick) := ⟨rfl, rfl, rfl, by decide +kernel, rfl, by decide +kernel, by decide +kernel⟩
abbrev s__law_between : Stmt := top 29
abbrev nm__law_between : List Str := ["store", "low", "high", "many", "way"]
theorem sc__law_between : FnScope nm__law_between ["store", "low", "high"] (defScope s__law_between) := ⟨rfl, rfl, rfl, by decide +kernel, rfl, by decide +kernel, by decide +kernel⟩
abbrev s__law_size : Stmt := top 30
abbrev nm__law_size : List Str := ["store", "most", "way"]
theorem sc__law_size : FnScope nm__law_size ["store", "most"] (defScope s__law_size) := ⟨rfl, rfl, rfl, by decide +kernel, rfl, by decide +kernel, by decide +kernel⟩
abbrev s__law_alike : Stmt := top 34
abbrev nm__law_alike : List Str := ["one", "two", "k"]
theorem sc__law_alike : FnScope nm__law_alike ["one", "two"] (defScope s__law_alike) := ⟨rfl, rfl, rfl, by decide +kernel, rfl, by decide +kernel, by decide +kernel⟩
abbrev s__law_copy : Stmt := top 35
abbrev nm__law_copy : List Str := ["value", "x"]
theorem sc__law_copy : FnScope nm__law_copy ["value"] (defScope s__law_copy) := ⟨rfl, rfl, rfl, by decide +kernel, rfl, by decide +kernel, by decide +kernel⟩
abbrev s_is_integer : Stmt := top 17
abbrev nm_is_integer : List Str := ["x"]
theorem sc_is_integer : FnScope nm_is_integer ["x"] (defScope s_is_integer) := ⟨rfl, rfl, rfl, by decide +kernel, rfl, by decide +kernel, by decide +kernel⟩
abbrev s_is_in_range : Stmt := top 18
abbrev nm_is_in_range : List Str := ["x", "least", "most"]
theorem sc_is_in_range : FnScope nm_is_in_range ["x", "least", "most"] (defScope s_is_in_range) := ⟨rfl, rfl, rfl, by decide +kernel, rfl, by decide +kernel, by decide +kernel⟩
abbrev s_ask_range : Stmt := top 19
abbrev nm_ask_range : List Str := ["name", "number", "least", "most"]
theorem sc_ask_range : FnScope nm_ask_range ["name", "number", "least", "most"] (defScope s_ask_range) := ⟨rfl, rfl, rfl, by decide +kernel, rfl, by decide +kernel, by decide +kernel⟩
abbrev s_ask_truth : Stmt := top 20
abbrev nm_ask_truth : List Str := ["name", "truth"]
theorem sc_ask_truth : FnScope nm_ask_truth ["name", "truth"] (defScope s_ask_truth) := ⟨rfl, rfl, rfl, by decide +kernel, rfl, by decide +kernel, by decide +kernel⟩
abbrev s_Ages____init__ : Stmt := inClass (top 22) 0
abbrev nm_Ages____init__ : List Str := ["self"]
theorem sc_Ages____init__ : FnScope nm_Ages____init__ ["self"] (defScope s_Ages____init__) := ⟨rfl, rfl, rfl, by decide +kernel, rfl, by decide +kernel, by decide +kernel⟩
abbrev s_Ages__enter : Stmt := inClass (top 22) 1
abbrev nm_Ages__enter : List Str := ["self", "pid", "priority", "ready"]
theorem sc_Ages__enter : FnScope nm_Ages__enter ["self", "pid", "priority", "ready"] (defScope s_Ages__enter) := ⟨rfl, rfl, rfl, by decide +kernel, rfl, by decide +kernel, by decide +kernel⟩
abbrev s_Ages__leave : Stmt := inClass (top 22) 2
abbrev nm_Ages__leave : List Str := ["self", "pid"]
theorem sc_Ages__leave : FnScope nm_Ages__leave ["self", "pid"] (defScope s_Ages__leave) := ⟨rfl, rfl, rfl, by decide +kernel, rfl, by decide +kernel, by decide +kernel⟩
abbrev s_Ages__wake : Stmt := inClass (top 22) 3
abbrev nm_Ages__wake : List Str := ["self", "pid"]
theorem sc_Ages__wake : FnScope nm_Ages__wake ["self", "pid"] (defScope s_Ages__wake) := ⟨rfl, rfl, rfl, by decide +kernel, rfl, by decide +kernel, by decide +kernel⟩
abbrev s_Ages__sleep : Stmt := inClass (top 22) 4
abbrev nm_Ages__sleep : List Str := ["self", "pid"]
theorem sc_Ages__sleep : FnScope nm_Ages__sleep ["self", "pid"] (defScope s_Ages__sleep) := ⟨rfl, rfl, rfl, by decide +kernel, rfl, by decide +kernel, by decide +kernel⟩
abbrev s_Ages__lend : Stmt := inClass (top 22) 5
abbrev nm_Ages__lend : List Str := ["self", "pid", "priority"]
theorem sc_Ages__lend : FnScope nm_Ages__lend ["self", "pid", "priority"] (defScope s_Ages__lend) := ⟨rfl, rfl, rfl, by decide +kernel, rfl, by decide +kernel, by decide +kernel⟩
abbrev s_Ages__pick : Stmt := inClass (top 22) 6
abbrev nm_Ages__pick : List Str := ["self", "pid", "ready", "picked"]
theorem sc_Ages__pick : FnScope nm_Ages__pick ["self"] (defScope s_Ages__pick) := ⟨rfl, rfl, rfl, by decide +kernel, rfl, by decide +kernel, by decide +kernel⟩
abbrev s_Ages__priority : Stmt := inClass (top 22) 7
abbrev nm_Ages__priority : List Str := ["self", "pid"]
theorem sc_Ages__priority : FnScope nm_Ages__priority ["self", "pid"] (defScope s_Ages__priority) := ⟨rfl, rfl, rfl, by decide +kernel, rfl, by decide +kernel, by decide +kernel⟩
abbrev s_Ages__age : Stmt := inClass (top 22) 8
abbrev nm_Ages__age : List Str := ["self", "pid"]
theorem sc_Ages__age : FnScope nm_Ages__age ["self", "pid"] (defScope s_Ages__age) := ⟨rfl, rfl, rfl, by decide +kernel, rfl, by decide +kernel, by decide +kernel⟩
abbrev s_Ages__rows : Stmt := inClass (top 22) 9
abbrev nm_Ages__rows : List Str := ["self", "pid"]
theorem sc_Ages__rows : FnScope nm_Ages__rows ["self"] (defScope s_Ages__rows) := ⟨rfl, rfl, rfl, by decide +kernel, rfl, by decide +kernel, by decide +kernel⟩
abbrev s_Ages____contains__ : Stmt := inClass (top 22) 11
abbrev nm_Ages____contains__ : List Str := ["self", "x"]
theorem sc_Ages____contains__ : FnScope nm_Ages____contains__ ["self", "x"] (defScope s_Ages____contains__) := ⟨rfl, rfl, rfl, by decide +kernel, rfl, by decide +kernel, by decide +kernel⟩
abbrev s_Ages___ask_member : Stmt := inClass (top 22) 14
abbrev nm_Ages___ask_member : List Str := ["self", "pid"]
theorem sc_Ages___ask_member : FnScope nm_Ages___ask_member ["self", "pid"] (defScope s_Ages___ask_member) := ⟨rfl, rfl, rfl, by decide +kernel, rfl, by decide +kernel, by decide +kernel⟩
abbrev s_Ages___effective : Stmt := inClass (top 22) 15
abbrev nm_Ages___effective : List Str := ["self", "pid"]
theorem sc_Ages___effective : FnScope nm_Ages___effective ["self", "pid"] (defScope s_Ages___effective) := ⟨rfl, rfl, rfl, by decide +kernel, rfl, by decide +kernel, by decide +kernel⟩
abbrev s_Ages___standing : Stmt := inClass (top 22) 16
abbrev nm_Ages___standing : List Str := ["self", "pid"]
theorem sc_Ages___standing : FnScope nm_Ages___standing ["self", "pid"] (defScope s_Ages___standing) := ⟨rfl, rfl, rfl, by decide +kernel, rfl, by decide +kernel, by decide +kernel⟩
abbrev s__law_fresh : Stmt := top 31
abbrev nm__law_fresh : List Str := ["number", "taken", "many", "k", "place"]
theorem sc__law_fresh : FnScope nm__law_fresh ["number", "taken", "many"] (defScope s__law_fresh) := ⟨rfl, rfl, rfl, by decide +kernel, rfl, by decide +kernel, by decide +kernel⟩
abbrev s__law_distinct : Stmt := top 32
abbrev nm__law_distinct : List Str := ["store", "many", "count", "rows", "k"]
theorem sc__law_distinct : FnScope nm__law_distinct ["store", "many", "count"] (defScope s__law_distinct) := ⟨rfl, rfl, rfl, by decide +kernel, rfl, by decide +kernel, by decide +kernel⟩
abbrev s_longest_wait : Stmt := top 23
abbrev nm_longest_wait : List Str := ["log", "pid", "longest", "wait", "ready", "row"]
theorem sc_longest_wait : FnScope nm_longest_wait ["log", "pid"] (defScope s_longest_wait) := ⟨rfl, rfl, rfl, by decide +kernel, rfl, by decide +kernel, by decide +kernel⟩
abbrev s__law_longest_wait : Stmt := top 36
abbrev nm__law_longest_wait : List Str := ["log", "pid", "ready", "run", "best", "row"]
theorem sc__law_longest_wait : FnScope nm__law_longest_wait ["log", "pid"] (defScope s__law_longest_wait) := ⟨rfl, rfl, rfl, by decide +kernel, rfl, by decide +kernel, by decide +kernel⟩
abbrev s__law_ages_deeds : Stmt := top 38
abbrev nm__law_ages_deeds : List Str := ["store", "count", "awake", "pids", "members", "calls", "k", "way", "pid"]
theorem sc__law_ages_deeds : FnScope nm__law_ages_deeds ["store", "count", "awake"] (defScope s__law_ages_deeds) := ⟨rfl, rfl, rfl, by decide +kernel, rfl, by decide +kernel, by decide +kernel⟩
abbrev s__law_logged : Stmt := top 39
abbrev nm__law_logged : List Str := ["ages", "call"]
theorem sc__law_logged : FnScope nm__law_logged ["ages", "call"] (defScope s__law_logged) := ⟨rfl, rfl, rfl, by decide +kernel, rfl, by decide +kernel, by decide +kernel⟩
abbrev s__law_counted : Stmt := top 40
abbrev nm__law_counted : List Str := ["log", "members", "most", "least", "row"]
theorem sc__law_counted : FnScope nm__law_counted ["log"] (defScope s__law_counted) := ⟨rfl, rfl, rfl, by decide +kernel, rfl, by decide +kernel, by decide +kernel⟩
abbrev s_Ages__bound : Stmt := inClass (top 22) 12
abbrev nm_Ages__bound : List Str := ["priority", "count"]
theorem sc_Ages__bound : FnScope nm_Ages__bound ["priority", "count"] (defScope s_Ages__bound) := ⟨rfl, rfl, rfl, by decide +kernel, rfl, by decide +kernel, by decide +kernel⟩
abbrev s__law_reaches : Stmt := top 41
abbrev nm__law_reaches : List Str := ["pids", "low", "ages", "calls", "many", "log", "call", "pid"]
theorem sc__law_reaches : FnScope nm__law_reaches ["pids", "low"] (defScope s__law_reaches) := ⟨rfl, rfl, rfl, by decide +kernel, rfl, by decide +kernel, by decide +kernel⟩
abbrev s_BadArgument____init__ : Stmt := inClass (top 4) 0
abbrev nm_BadArgument____init__ : List Str := ["self", "name"]
theorem sc_BadArgument____init__ : FnScope nm_BadArgument____init__ ["self", "name"] (defScope s_BadArgument____init__) := ⟨rfl, rfl, rfl, by decide +kernel, rfl, by decide +kernel, by decide +kernel⟩
abbrev s__law_error : Stmt := top 37
abbrev nm__law_error : List Str := ["e", "found"]
theorem sc__law_error : FnScope nm__law_error ["e"] (defScope s__law_error) := ⟨rfl, rfl, rfl, by decide +kernel, rfl, by decide +kernel, by decide +kernel⟩
abbrev s__law_wrong_integer : Stmt := top 33
abbrev nm__law_wrong_integer : List Str := ["store", "low", "high", "near", "others"]
theorem sc__law_wrong_integer : FnScope nm__law_wrong_integer ["store", "low", "high"] (defScope s__law_wrong_integer) := ⟨rfl, rfl, rfl, by decide +kernel, rfl, by decide +kernel, by decide +kernel⟩
abbrev s__law_bound_refused : Stmt := top 42
abbrev nm__law_bound_refused : List Str := ["low", "many", "e"]
theorem sc__law_bound_refused : FnScope nm__law_bound_refused ["low", "many"] (defScope s__law_bound_refused) := ⟨rfl, rfl, rfl, by decide +kernel, rfl, by decide +kernel, by decide +kernel⟩
abbrev s__law_wait_refused : Stmt := top 43
abbrev nm__law_wait_refused : List Str := ["log", "pid", "e"]
theorem sc__law_wait_refused : FnScope nm__law_wait_refused ["log", "pid"] (defScope s__law_wait_refused) := ⟨rfl, rfl, rfl, by decide +kernel, rfl, by decide +kernel, by decide +kernel⟩
abbrev s_law : Stmt := top 44
abbrev nm_law : List Str := ["script", "store", "ages", "log", "handed", "counted", "pid", "wait", "low", "many", "told", "wrong", "call"]
theorem sc_law : FnScope nm_law ["script"] (defScope s_law) := ⟨rfl, rfl, rfl, by decide +kernel, rfl, by decide +kernel, by decide +kernel⟩
end
end K24
namespace K24
open PySem PySem.Spec PyProof.Rows L2 Wk
/-! ### the head -/
/-! ### what is looked at: the module's names and the interpreter's own statics -/
def obsA (as : List Addr) (fa : List He.Fa) (fn : List He.DefD) (tf : List He.Defn) (ex : PySem.W.Frag → Bool) (g : Addr → Option Obj) : He.AlX := (He.obsT fa fn [] (He.frT g as), ex (He.frT g as) && He.tabsB g tf (He.frT g as))
theorem saysA {as : List Addr} {fa : List He.Fa} {fn : List He.DefD} {tf : List He.Defn} {ex : PySem.W.Frag → Bool} {w : World} {h : Heap} (e : obsA as fa fn tf ex h.get? = He.valX fn [] w) : He.SaysX fa fn [] tf ex w h (He.frT h.get? as) := by
  have e1 : He.obsT fa fn [] (He.frT h.get? as) = He.valT fn [] w := congrArg (fun z : He.AlX => z.1) e
  have e2 : (ex (He.frT h.get? as) && He.tabsB h.get? tf (He.frT h.get? as)) = true := congrArg (fun z : He.AlX => z.2) e
  obtain ⟨h1, h2⟩ := He.ba e2
  have tb : ∀ p ∈ tf, PySem.W.codeHdIn (He.frT h.get? as) (He.cT (He.frT h.get? as) p).1 (He.cT (He.frT h.get? as) p).2 = true ∧ ∃ o, h.get? (He.cT (He.frT h.get? as) p).2 = some o ∧ He.emptyTab o = true := fun p hp => by
    obtain ⟨z1, z2⟩ := He.ba (List.all_eq_true.mp h2 p hp)
    refine ⟨z1, ?_⟩
    split at z2
    · exact ⟨_, by assumption, z2⟩
    · cases z2
  exact ⟨e1, h1, fun p hp => (tb p hp).1, fun p hp => let ⟨_, _, q, z⟩ := tb p hp; He.frT_none q z, fun p hp => let ⟨_, _, q, z⟩ := tb p hp; q.trans (congrArg some (He.emptyTab_eq z))⟩
def tupAt (K : PySem.W.Frag) (a : Addr) (vs : List V) : Bool := match K.lookup a with
  | some ⟨.type c, _, .seq its _, _⟩ => decide (c = "tuple") && (decide (its.size ≤ sizeLine) && He.relAll vs its.toList)
  | _ => false
theorem tupAt_ok {K : PySem.W.Frag} {a : Addr} {vs : List V} (h : tupAt K a vs = true) (H : Hp) : SqT K H a vs := by
  unfold tupAt at h
  split at h
  · rename_i c d its n sl q
    obtain ⟨h1, h2⟩ := He.ba h
    obtain ⟨h3, h4⟩ := He.ba h2
    exact .inr ⟨_, its, n, q, congrArg Value.type (of_decide_eq_true h1), rfl, of_decide_eq_true h3, He.relAll_ok h4⟩
  · cases h
/-- an own class of errors over ValueError -/
def oexB (K : PySem.W.Frag) (C : Addr) : Bool := (match K.lookup C with
  | some ⟨.type t, _, .cls cd, sl⟩ => decide (t = "type") && ((match cd.mro with
    | .ref C' :: bm => decide (C' = C) && PySem.HandSPX.refsVE bm
    | _ => false) && (cd.hasDict && (!cd.hasDel && (match sl.toList with
    | [_, _, _, _, some (.builtin n), _] => decide (n = "ValueError.__new__")
    | _ => false))))
  | _ => false) && (He.eqO (PySem.W.findIn K (.ref C) "__setattr__") (some (some (.builtin "object.__setattr__"))) && (decide (PySem.W.subIn K (.ref C) (.type "BaseException") = some true) && (decide (PySem.W.typeIn K (.ref C) = some (.type "type")) && PySem.W.keepIn K (.ref C))))
theorem oexB_ok {K : PySem.W.Frag} {C : Addr} (h : oexB K C = true) : OexC K C := by
  obtain ⟨h1, h⟩ := He.ba h
  obtain ⟨h2, h⟩ := He.ba h
  obtain ⟨h3, h⟩ := He.ba h
  obtain ⟨h4, h5⟩ := He.ba h
  refine ⟨?_, He.eqO_ok h2, of_decide_eq_true h3, of_decide_eq_true h4, h5⟩
  split at h1
  · rename_i t dd cd sl lk
    obtain ⟨k1, h1⟩ := He.ba h1
    obtain ⟨k2, h1⟩ := He.ba h1
    obtain ⟨k3, h1⟩ := He.ba h1
    obtain ⟨k4, k5⟩ := He.ba h1
    obtain ⟨nm, bs, mro, ns, qn, hd, sn, sub, ab, col, del⟩ := cd
    dsimp only at k2 k3 k4
    obtain rfl : t = "type" := of_decide_eq_true k1
    obtain rfl : hd = true := k3
    obtain rfl : del = false := by cases del with
      | false => rfl
      | true => cases k4
    cases mro with
    | nil => cases k2
    | cons u bm =>
      cases u with
      | ref C' =>
        obtain ⟨k6, k7⟩ := He.ba k2
        obtain rfl : C' = C := of_decide_eq_true k6
        obtain ⟨l⟩ := sl
        match l, k5, lk with
        | [k0, k1, k2, k3, some (.builtin n), k5'], k5, lk =>
          obtain rfl : n = "ValueError.__new__" := of_decide_eq_true k5
          exact ⟨_, _, _, _, _, _, _, _, _, _, _, _, _, _, _, lk, k7⟩
      | _ => cases k2
  · cases h1
def excB (K : PySem.W.Frag) (D : Addr) : Bool := He.eqO (PySem.W.findIn K (.ref D) "__getattribute__") (some (some (.builtin "BaseException.__getattribute__"))) && (He.eqO (PySem.W.findIn K (.ref D) "__getattr__") (some none) && (decide (PySem.W.subIn K (.ref D) (.type "BaseException") = some true) && (PySem.W.hasDictIn K D &&
  (He.eqO (PySem.W.findIn K (.ref D) "__class__") (some (some (.builtin "object.__class__"))) && (He.eqO (PySem.W.specialIn K (.builtin "object.__class__") "__get__") (some (some (.builtin "getset_descriptor.__get__"))) && (decide (PySem.W.takesIn K (.builtin "object.__class__") = some true) && decide (PySem.W.mroIn K D (.type "object") = some true)))))))
theorem excB_ok {K : PySem.W.Frag} {D : Addr} (h : excB K D = true) : ExcC K D := by
  obtain ⟨h1, h⟩ := He.ba h
  obtain ⟨h2, h⟩ := He.ba h
  obtain ⟨h3, h⟩ := He.ba h
  obtain ⟨h4, h⟩ := He.ba h
  obtain ⟨h5, h⟩ := He.ba h
  obtain ⟨h6, h⟩ := He.ba h
  obtain ⟨h7, h8⟩ := He.ba h
  exact ⟨He.eqO_ok h1, He.eqO_ok h2, of_decide_eq_true h3, h4, He.eqO_ok h5, He.eqO_ok h6, of_decide_eq_true h7, of_decide_eq_true h8⟩
def wrB (K : PySem.W.Frag) (W : Addr) : Bool := PySem.W.readsIn K W (.type "type") && (match PySem.W.findCls K (.ref W) (.type "type") "__init__" with
  | some (.val v) => decide (v = .builtin "ValueError.__init__")
  | _ => false)
theorem wrB_ok {K : PySem.W.Frag} {W : Addr} (h : wrB K W = true) : ∃ mc, PySem.W.readsIn K W mc = true ∧ PySem.W.findCls K (.ref W) mc "__init__" = some (.val (.builtin "ValueError.__init__")) := by
  obtain ⟨h1, h2⟩ := He.ba h
  refine ⟨_, h1, ?_⟩
  split at h2
  · rename_i v e
    rw [e, of_decide_eq_true h2]
  · cases h2
def errOthers : List Str := ["BadText", "LabelTwice", "LabelMissing", "TooLong", "Unknown", "Taken", "NotAllowed", "WrongState", "RingOfWaits", "Full", "Stopped", "SourceError"]
/-- BadArgument, WardError, the others -/
def errB (K : PySem.W.Frag) : Bool := let C := He.ga K "BadArgument"; let W := He.ga K "WardError"; let f := He.ma K C "__init__"
  He.eqO (PySem.W.nsIn K mainGlobals "BadArgument") (some (some (.ref C))) && (He.eqO (PySem.W.nsIn K mainGlobals "WardError") (some (some (.ref W))) && (He.eqO (PySem.W.nsIn K mainGlobals "ValueError") (some none) && (oexB K C && (L2.xfB K C && (excB K C && (He.eqO (PySem.W.findIn K (.ref C) "name") (some none) &&
    (He.eqO (PySem.W.findIn K (.ref C) "__init__") (some (some (.ref f))) && (decide (PySem.W.typeIn K (.ref f) = some (.type "function")) && (He.eqO (PySem.W.specialIn K (.ref W) "__getattribute__") (some (some (.builtin "type.__getattribute__"))) && (wrB K W && (decide (PySem.W.kitOne K (.ref C) (.ref W) = some true) &&
    (decide (PySem.W.exmOne K (.ref C) (.ref W) = some true) && (decide (PySem.W.kitOne K (.ref C) (.type "ValueError") = some true) && (decide (PySem.W.kitOne K (.ref C) (.ref C) = some true) &&
    errOthers.all fun x => He.eqO (PySem.W.nsIn K mainGlobals x) (some (some (.ref (He.ga K x)))) && decide (PySem.W.kitOne K (.ref C) (.ref (He.ga K x)) = some false)))))))))))))))

def bmB (K : PySem.W.Frag) (x m : Str) : Bool := let f := He.ma K (He.ga K x) m
  He.eqO (PySem.W.specialIn K (.ref f) "__get__") (some (some (.builtin "function.__get__"))) && (decide (PySem.W.takesIn K (.ref f) = some false) && (!PySem.W.copiedNames.contains m && PySem.W.fnIn K f))
theorem bmB_ok {K : PySem.W.Frag} {x m : Str} (h : bmB K x m = true) (hm : Meth K (He.ga K x) m (He.ma K (He.ga K x) m)) : BMeth K (He.ga K x) m (He.ma K (He.ga K x) m) := by
  obtain ⟨h1, h⟩ := He.ba h
  obtain ⟨h2, h⟩ := He.ba h
  obtain ⟨h3, h4⟩ := He.ba h
  exact ⟨hm, He.eqO_ok h1, of_decide_eq_true h2, by simpa using h3, h4⟩

def stB (K : PySem.W.Frag) (x m : Str) : Bool := He5.wrapB K (He.ga K x) "staticmethod" "staticmethod.__get__" m && (He.eqO (PySem.W.specialIn K (.ref (He.ga K x)) "__getattribute__") (some (some (.builtin "type.__getattribute__"))) && PySem.W.readsIn K (He.ga K x) (.type "type"))
theorem stB_ok {K : PySem.W.Frag} {x m : Str} (h : stB K x m = true) : SMet K (He.ga K x) m (He.ma K (He.ga K x) m) (He5.wf K (He.ga K x) "staticmethod" m) := by
  obtain ⟨h1, h⟩ := He.ba h
  obtain ⟨h2, h3⟩ := He.ba h
  obtain ⟨k1, k2⟩ := He5.wrapB_ok h1
  exact ⟨h3, He.eqO_ok h2, k1, k2⟩
def ex (K : PySem.W.Frag) : Bool := (bmB K "Ages" "_standing" && (stB K "Ages" "bound" && errB K))
def d_is_integer : He.DefD := ⟨("is_integer", none), "is_integer", "is_integer", defArgs s_is_integer, defBody s_is_integer, defScope s_is_integer, [], []⟩
def d_is_in_range : He.DefD := ⟨("is_in_range", none), "is_in_range", "is_in_range", defArgs s_is_in_range, defBody s_is_in_range, defScope s_is_in_range, [], []⟩
def d_ask_range : He.DefD := ⟨("ask_range", none), "ask_range", "ask_range", defArgs s_ask_range, defBody s_ask_range, defScope s_ask_range, [], []⟩
def d_ask_truth : He.DefD := ⟨("ask_truth", none), "ask_truth", "ask_truth", defArgs s_ask_truth, defBody s_ask_truth, defScope s_ask_truth, [], []⟩
def d_longest_wait : He.DefD := ⟨("longest_wait", none), "longest_wait", "longest_wait", defArgs s_longest_wait, defBody s_longest_wait, defScope s_longest_wait, [], []⟩
def d__law_mixed : He.DefD := ⟨("_law_mixed", none), "_law_mixed", "_law_mixed", defArgs s__law_mixed, defBody s__law_mixed, defScope s__law_mixed, [], []⟩
def d__law_store : He.DefD := ⟨("_law_store", none), "_law_store", "_law_store", defArgs s__law_store, defBody s__law_store, defScope s__law_store, [], []⟩
def d__law_take : He.DefD := ⟨("_law_take", none), "_law_take", "_law_take", defArgs s__law_take, defBody s__law_take, defScope s__law_take, [], []⟩
def d__law_pick : He.DefD := ⟨("_law_pick", none), "_law_pick", "_law_pick", defArgs s__law_pick, defBody s__law_pick, defScope s__law_pick, [], []⟩
def d__law_between : He.DefD := ⟨("_law_between", none), "_law_between", "_law_between", defArgs s__law_between, defBody s__law_between, defScope s__law_between, [], []⟩
def d__law_size : He.DefD := ⟨("_law_size", none), "_law_size", "_law_size", defArgs s__law_size, defBody s__law_size, defScope s__law_size, [], []⟩
def d__law_fresh : He.DefD := ⟨("_law_fresh", none), "_law_fresh", "_law_fresh", defArgs s__law_fresh, defBody s__law_fresh, defScope s__law_fresh, [], []⟩
def d__law_distinct : He.DefD := ⟨("_law_distinct", none), "_law_distinct", "_law_distinct", defArgs s__law_distinct, defBody s__law_distinct, defScope s__law_distinct, [], []⟩
def d__law_wrong_integer : He.DefD := ⟨("_law_wrong_integer", none), "_law_wrong_integer", "_law_wrong_integer", defArgs s__law_wrong_integer, defBody s__law_wrong_integer, defScope s__law_wrong_integer, [], []⟩
def d__law_alike : He.DefD := ⟨("_law_alike", none), "_law_alike", "_law_alike", defArgs s__law_alike, defBody s__law_alike, defScope s__law_alike, [], []⟩
def d__law_copy : He.DefD := ⟨("_law_copy", none), "_law_copy", "_law_copy", defArgs s__law_copy, defBody s__law_copy, defScope s__law_copy, [], []⟩
def d__law_longest_wait : He.DefD := ⟨("_law_longest_wait", none), "_law_longest_wait", "_law_longest_wait", defArgs s__law_longest_wait, defBody s__law_longest_wait, defScope s__law_longest_wait, [], []⟩
def d__law_error : He.DefD := ⟨("_law_error", none), "_law_error", "_law_error", defArgs s__law_error, defBody s__law_error, defScope s__law_error, [], []⟩
def d__law_ages_deeds : He.DefD := ⟨("_law_ages_deeds", none), "_law_ages_deeds", "_law_ages_deeds", defArgs s__law_ages_deeds, defBody s__law_ages_deeds, defScope s__law_ages_deeds, [], []⟩
def d__law_logged : He.DefD := ⟨("_law_logged", none), "_law_logged", "_law_logged", defArgs s__law_logged, defBody s__law_logged, defScope s__law_logged, [], []⟩
def d__law_counted : He.DefD := ⟨("_law_counted", none), "_law_counted", "_law_counted", defArgs s__law_counted, defBody s__law_counted, defScope s__law_counted, [], []⟩
def d__law_reaches : He.DefD := ⟨("_law_reaches", none), "_law_reaches", "_law_reaches", defArgs s__law_reaches, defBody s__law_reaches, defScope s__law_reaches, [], []⟩
def d__law_bound_refused : He.DefD := ⟨("_law_bound_refused", none), "_law_bound_refused", "_law_bound_refused", defArgs s__law_bound_refused, defBody s__law_bound_refused, defScope s__law_bound_refused, [], []⟩
def d__law_wait_refused : He.DefD := ⟨("_law_wait_refused", none), "_law_wait_refused", "_law_wait_refused", defArgs s__law_wait_refused, defBody s__law_wait_refused, defScope s__law_wait_refused, [], []⟩
def d_law : He.DefD := ⟨("law", none), "law", "law", defArgs s_law, defBody s_law, defScope s_law, [], []⟩
def d_M_leave : He.DefD := ⟨("Ages", some "leave"), "leave", "Ages.leave", defArgs s_Ages__leave, defBody s_Ages__leave, defScope s_Ages__leave, [], []⟩
def d_M_wake : He.DefD := ⟨("Ages", some "wake"), "wake", "Ages.wake", defArgs s_Ages__wake, defBody s_Ages__wake, defScope s_Ages__wake, [], []⟩
def d_M_sleep : He.DefD := ⟨("Ages", some "sleep"), "sleep", "Ages.sleep", defArgs s_Ages__sleep, defBody s_Ages__sleep, defScope s_Ages__sleep, [], []⟩
def d_M_pick : He.DefD := ⟨("Ages", some "pick"), "pick", "Ages.pick", defArgs s_Ages__pick, defBody s_Ages__pick, defScope s_Ages__pick, [], []⟩
def d_M_priority : He.DefD := ⟨("Ages", some "priority"), "priority", "Ages.priority", defArgs s_Ages__priority, defBody s_Ages__priority, defScope s_Ages__priority, [], []⟩
def d_M_age : He.DefD := ⟨("Ages", some "age"), "age", "Ages.age", defArgs s_Ages__age, defBody s_Ages__age, defScope s_Ages__age, [], []⟩
def d_M_rows : He.DefD := ⟨("Ages", some "rows"), "rows", "Ages.rows", defArgs s_Ages__rows, defBody s_Ages__rows, defScope s_Ages__rows, [], []⟩
def d_M___contains__ : He.DefD := ⟨("Ages", some "__contains__"), "__contains__", "Ages.__contains__", defArgs s_Ages____contains__, defBody s_Ages____contains__, defScope s_Ages____contains__, [], []⟩
def d_M__ask_member : He.DefD := ⟨("Ages", some "_ask_member"), "_ask_member", "Ages._ask_member", defArgs s_Ages___ask_member, defBody s_Ages___ask_member, defScope s_Ages___ask_member, [], []⟩
def d_M__effective : He.DefD := ⟨("Ages", some "_effective"), "_effective", "Ages._effective", defArgs s_Ages___effective, defBody s_Ages___effective, defScope s_Ages___effective, [], []⟩
def d_M_enter : He.DefD := ⟨("Ages", some "enter"), "enter", "Ages.enter", defArgs s_Ages__enter, defBody s_Ages__enter, defScope s_Ages__enter, [.int 3], [("ready", .bl true)]⟩
def d_M_lend : He.DefD := ⟨("Ages", some "lend"), "lend", "Ages.lend", defArgs s_Ages__lend, defBody s_Ages__lend, defScope s_Ages__lend, [.int 0], []⟩
def d_M__standing : He.DefD := ⟨("Ages", some "_standing"), "_standing", "Ages._standing", defArgs s_Ages___standing, defBody s_Ages___standing, defScope s_Ages___standing, [], []⟩
def d_M___init__ : He.DefD := ⟨("Ages", some "__init__"), "__init__", "Ages.__init__", defArgs s_Ages____init__, defBody s_Ages____init__, defScope s_Ages____init__, [], []⟩
def d_B_init : He.DefD := ⟨("BadArgument", some "__init__"), "__init__", "BadArgument.__init__", defArgs s_BadArgument____init__, defBody s_BadArgument____init__, defScope s_BadArgument____init__, [], []⟩
def fn0 : List He.DefD := [d_is_integer, d_is_in_range, d_ask_range, d_ask_truth, d_longest_wait, d__law_mixed, d__law_store, d__law_take, d__law_pick, d__law_between, d__law_size, d__law_fresh]
def fn1 : List He.DefD := [d__law_distinct, d__law_wrong_integer, d__law_alike, d__law_copy, d__law_longest_wait, d__law_error, d__law_ages_deeds, d__law_logged, d__law_counted, d__law_reaches, d__law_bound_refused, d__law_wait_refused]
def fn2 : List He.DefD := [d_law, d_M_leave, d_M_wake, d_M_sleep, d_M_pick, d_M_priority, d_M_age, d_M_rows, d_M___contains__, d_M__ask_member, d_M__effective, d_M_enter]
def fn3 : List He.DefD := [d_M_lend, d_M__standing, d_M___init__, d_B_init]
def fn : List He.DefD := fn0 ++ (fn1 ++ (fn2 ++ (fn3)))
def fa0 : List He.Fa := [.glo "is_integer", .glo "is_in_range", .glo "ask_range", .glo "ask_truth", .glo "longest_wait", .glo "_law_mixed", .glo "_law_store", .glo "_law_take", .glo "_law_pick", .glo "_law_between", .glo "_law_size", .glo "_law_fresh"]
def fa1 : List He.Fa := [.glo "_law_distinct", .glo "_law_wrong_integer", .glo "_law_alike", .glo "_law_copy", .glo "_law_longest_wait", .glo "_law_error", .glo "_law_ages_deeds", .glo "_law_logged", .glo "_law_counted", .glo "_law_reaches", .glo "_law_bound_refused", .glo "_law_wait_refused"]
def fa2 : List He.Fa := [.glo "law", .glo "Ages", .cls "Ages", .noat "Ages" "_members", .mkr "Ages", .meth "Ages" "leave", .meth "Ages" "wake", .meth "Ages" "sleep", .meth "Ages" "pick", .meth "Ages" "priority", .meth "Ages" "age", .meth "Ages" "rows"]
def fa3 : List He.Fa := [.meth "Ages" "__contains__", .meth "Ages" "_ask_member", .meth "Ages" "_effective", .meth "Ages" "enter", .meth "Ages" "lend", .meth "Ages" "_standing", .free "int", .free "len", .free "range", .free "list", .free "abs", .free "min"]
def fa4 : List He.Fa := [.free "max", .free "isinstance", .free "bool", .free "str", .free "tuple", .free "dict", .free "sorted", .free "all", .free "any", .free "zip", .free "enumerate", .free "sum"]
def fa : List He.Fa := fa0 ++ (fa1 ++ (fa2 ++ (fa3 ++ (fa4))))
def tf : List He.Defn := []
def d_S_bound : He5.DefA := ⟨fun K => He5.wf K (He.ga K "Ages") "staticmethod" "bound", "bound", "Ages.bound", defArgs s_Ages__bound, defBody s_Ages__bound, defScope s_Ages__bound, [.int 8], []⟩
def axs : List He5.DefA := [d_S_bound]
def NN : Nat := 6
abbrev AlY : Type := He.AlX × He.AlD
def asY (g : Addr → Option Obj) : List Addr := He.asD g NN ++ [cStatics]
def obsY (g : Addr → Option Obj) : AlY := (obsA (asY g) fa fn tf ex g, He5.obsA [] axs (He.frT g (asY g)))
theorem saysY (w : World) (s : Shared) (e : obsY s.heap.get? = (He.valX fn [] w, He5.valA axs)) : ∃ K : PySem.W.Frag, K.In s.heap ∧ He.SaysX fa fn [] tf ex w s.heap K ∧ He5.SaysA [] axs K := by
  obtain ⟨e1, e2⟩ := Prod.mk.inj (show (obsA (asY s.heap.get?) fa fn tf ex s.heap.get?, He5.obsA [] axs (He.frT s.heap.get? (asY s.heap.get?))) = (He.valX fn [] w, He5.valA axs) from e)
  exact ⟨He.frT s.heap.get? (asY s.heap.get?), He.frT_in, saysA e1, e2⟩
def hookY : PySem.W.Hook where
  α := AlY
  obs := fun s => obsY s.heap.get?
  val := fun w => (He.valX fn [] w, He5.valA axs)
  says := fun w h => ∃ K : PySem.W.Frag, K.In h ∧ He.SaysX fa fn [] tf ex w h K ∧ He5.SaysA [] axs K
  of := fun _ s e => saysY _ s e
  keeps := fun _ _ _ ⟨K, hK, c, q⟩ k => ⟨K, PySem.W.Frag.In.keeps hK k, ⟨c.t, c.more, c.hd, c.out, fun p hp => k _ _ (c.empty p hp)⟩, q⟩
def ob (s : PySem.W.SharedT) : AlY := obsY (HandSHeadRun.getT s)
theorem ob_eq (s : PySem.W.SharedT) : ob s = hookY.obs s.abs := by
  show obsY (HandSHeadRun.getT s) = obsY s.abs.heap.get?
  rw [show HandSHeadRun.getT s = s.abs.heap.get? from funext (HandSHeadRun.getT_eq s)]
abbrev R : PySem.W.OpenRow := PySem.W.OpenLaw.row PySem.Challenge.rw_wardwork_k24_wait_within_the_bound
def loose0 : List Str := ["WardError", "SourceError", "BadArgument", "BadText", "LabelTwice", "LabelMissing", "TooLong", "Unknown", "Taken", "NotAllowed", "WrongState", "RingOfWaits"]
def loose1 : List Str := ["Full", "Stopped", "Ages", "_wall", "is_integer", "is_in_range", "ask_range", "ask_truth", "longest_wait", "_law_mixed", "_law_store", "_law_take"]
def loose2 : List Str := ["_law_pick", "_law_between", "_law_size", "_law_fresh", "_law_distinct", "_law_wrong_integer", "_law_alike", "_law_copy", "_law_longest_wait", "_law_error", "_law_ages_deeds", "_law_logged"]
def loose3 : List Str := ["_law_counted", "_law_reaches", "_law_bound_refused", "_law_wait_refused"]
def loose : List Str := loose0 ++ (loose1 ++ (loose2 ++ (loose3)))
end K24
namespace K24
open PySem PySem.Spec PyProof.Rows L2 Wk
theorem run (w : World) : HandSHeadRun.RunEq R (PySem.W.view R.prog [44]) hookY ob 20000 loose w := by
  intro os
  kernel_rfl
end K24
set_option Elab.async false
set_option linter.all false
set_option maxRecDepth 100000
set_option maxHeartbeats 4000000
namespace K24
open PySem PySem.Spec PyProof.Rows L2 Wk
local macro_rules | `(tactic| walk_at "u1") => `(tactic| fail "no more")
local macro_rules | `(tactic| walk_at "pos") => `(tactic| first | assumption | omega | decide | (simp only [Int.ofNat_eq_natCast] at *; omega))
local macro_rules | `(tactic| walk_at "sz") => `(tactic| first
  | (simp only [List.length_cons, List.length_nil]; decide)
  | exact Evl.sz_of (by omega)
  | exact Evl.sz_lt (by omega)
  | exact Evl.sz_of (by simp only [List.length_map, List.length_append, List.length_cons, List.length_nil, List.length_replicate]; omega)
  | exact Evl.sz_lt (by simp only [List.length_map, List.length_append, List.length_cons, List.length_nil, List.length_replicate]; omega))
local macro_rules | `(tactic| walk_at "cond") => `(tactic| first
  | exact Or.inr ⟨by decide, by decide⟩
  | (show (0 : Int) < _; first | decide | assumption | omega)
  | exact Or.inl ⟨by omega, by omega⟩
  | exact Or.inr ⟨by omega, by omega⟩
  | exact ⟨by decide, by decide, by decide⟩
  | exact log2_lt (by omega) (by omega)
  | exact ⟨by omega, by omega⟩)
local macro_rules | `(tactic| walk_at "ty") => `(tactic| first
  | exact ty_int | exact ty_bl | exact ty_str | exact ty_non
  | exact ty_L (by assumption) | exact ty_T (by assumption)
  | exact ty_L (SqL.of (by assumption)) | exact ty_T (SqT.of (by assumption)))
local macro_rules | `(tactic| walk_at "kit") => `(tactic| first
  | exact k_ii | exact k_ib | exact k_is | exact k_il | exact k_it
  | exact k_bb | exact k_bi | exact k_bs | exact k_bl | exact k_bt
  | exact k_ss | exact k_sb | exact k_si | exact k_sl | exact k_st
  | exact k_ll | exact k_lb | exact k_li | exact k_ls | exact k_lt
  | exact k_tt | exact k_tb | exact k_ti | exact k_ts | exact k_tl
  | exact k_nn | exact k_ni | exact k_ns | exact k_nl | exact k_nt)
local macro_rules | `(tactic| walk_at "s1") => `(tactic| first
  | with_reducible refine w_seq ?_
  | with_reducible refine w_set ?_
  | with_reducible refine w_op ?_
  | ((with_reducible refine' w_var ?h1 ?_); (case h1 => rfl))
  | with_reducible refine w_c ?_
  | with_reducible refine w_cb ?_
  | with_reducible refine w_cons ?_
  | with_reducible refine w_nil ?_
  | with_reducible refine w_I0 ?_
  | ((with_reducible refine' w_I ?c1 ?_); case c1 => walk_at "cond")
  | with_reducible refine w_ret ?_
  | with_reducible refine w_next ?_
  | with_reducible refine w_ifS ?_
  | with_reducible refine w_test ?_
  | with_reducible refine w_tB ?_
  | with_reducible refine w_k ?_
  | with_reducible refine w_eqI ?_
  | with_reducible refine w_neI ?_
  | with_reducible refine w_eqS ?_
  | with_reducible refine w_neS ?_
  | with_reducible refine w_and ?_
  | with_reducible refine w_or ?_
  | with_reducible refine w_not ?_
  | with_reducible refine w_andV ?_
  | with_reducible refine w_orV ?_
  | with_reducible refine w_notV ?_
  | with_reducible refine w_ifE ?_
  | with_reducible refine w_true ?_
  | with_reducible refine w_false ?_
  | with_reducible refine w_ntrue ?_
  | with_reducible refine w_nfalse ?_
  | with_reducible refine w_call ?_
  | with_reducible refine c_int ?_
  | with_reducible refine c_abs ?_
  | with_reducible refine c_max ?_
  | with_reducible refine c_min ?_
  | with_reducible refine w_drop ?_
  | with_reducible refine w_sfld ?_
  | with_reducible refine w_meth ?_
  | with_reducible refine w_make ?_
  | with_reducible refine w_prop ?_
  | with_reducible refine w_callK ?_
  | with_reducible refine w_callN ?_
  | with_reducible refine w_star ?_
  | with_reducible refine w_gcons ?_
  | with_reducible refine w_gname ?_
  | with_reducible refine w_gnil ?_
  | with_reducible refine w_retN ?_
  | with_reducible refine w_tup ?_
  | with_reducible refine w_lst ?_
  | with_reducible refine w_fld ?_
  | with_reducible refine w_bm ?_
  | with_reducible refine w_bm0 ?_
  | with_reducible refine w_forL ?_
  | with_reducible refine w_forT ?_
  | with_reducible refine w_forS ?_
  | with_reducible refine w_forR ?_
  | with_reducible refine w_lcR ?_
  | with_reducible refine w_lcL ?_
  | with_reducible refine w_lcT ?_
  | with_reducible refine w_isN ?_
  | with_reducible refine w_notN ?_
  | with_reducible refine w_asg ?_
  | with_reducible refine w_gsub ?_
  | ((with_reducible refine' w_aug ?h1 ?_); (case h1 => rfl))
  | with_reducible refine w_augS ?_
  | with_reducible refine w_ipI ?_
  | with_reducible refine w_un ?_
  | with_reducible refine w_U ?_
  | ((with_reducible refine' w_iteF ?f1 ?_); case f1 => (first | (intro h; cases h; done) | decide))
  | ((with_reducible refine' w_iteT ?f1 ?_); case f1 => rfl)
  | ((with_reducible refine' w_iteNF ?f1 ?_); case f1 => rfl)
  | ((with_reducible refine' w_iteNT ?f1 ?_); case f1 => (first | (intro h; cases h; done) | decide))
  | ((with_reducible refine' c_isi ?t1 ?k1 ?_); (case t1 => walk_at "ty"); (case k1 => walk_at "kit"))
  | ((with_reducible refine' w_eq ?e1 ?_); case e1 => rfl)
  | ((with_reducible refine' w_ne ?e1 ?_); case e1 => rfl)
  | walk_at "u1")
local macro_rules | `(tactic| walk_at "s") => `(tactic| repeat walk_at "s1")
local macro_rules | `(tactic| walk_at "mem") => `(tactic| first | with_reducible exact List.mem_cons_self .. | ((with_reducible refine' List.mem_cons_of_mem _ ?q); (case q => walk_at "mem")) | assumption | ((with_reducible refine' List.mem_append_right _ ?q); (case q => walk_at "mem")) | (exact List.mem_append_left _ (by assumption)))
local macro_rules | `(tactic| walk_at "pk") => `(tactic| first | with_reducible exact Pk.here | ((with_reducible refine' Pk.there ?q); (case q => walk_at "pk")) | ((with_reducible refine' Pk.app ?q); (case q => walk_at "pk")))
local macro_rules | `(tactic| walk_at "pkb") => `(tactic| first | with_reducible exact PkB.here | ((with_reducible refine' PkB.there ?q); (case q => walk_at "pkb")) | ((with_reducible refine' PkB.app ?q); (case q => walk_at "pkb")))
local macro_rules | `(tactic| walk_at "spl") => `(tactic| first | with_reducible exact Spl.nil | ((with_reducible refine' Spl.cons ?h ?t); (case h => walk_at "pk"); (case t => walk_at "spl")) | ((with_reducible refine' Spl.blk ?h ?t); (case h => walk_at "pkb"); (case t => walk_at "spl")))
local macro_rules | `(tactic| walk_at "sbx") => `(tactic| first | with_reducible exact Sb.refl | with_reducible exact Sb.nil | with_reducible exact Sb.left | ((with_reducible refine' Sb.cons ?h ?t); (case h => walk_at "pk"); (case t => walk_at "sbx")) | ((with_reducible refine' Sb.blk ?h ?t); (case h => walk_at "pkb"); (case t => walk_at "sbx")) | ((with_reducible refine' Sb.drop ?q); (case q => walk_at "sbx")) | ((with_reducible refine' Sb.right ?q); (case q => walk_at "sbx")))
local macro_rules | `(tactic| walk_at "hd") => `(tactic| first | assumption | exact Hd.sb (by assumption) (by walk_at "sbx"))
local macro_rules | `(tactic| walk_at "sq") => `(tactic| first
  | assumption
  | exact Hd.sqL (by assumption) (by walk_at "mem")
  | exact Hd.sqT (by assumption) (by walk_at "mem")
  | exact Hd.sqF (by assumption) (by walk_at "mem")
  | (refine .inl ?_; walk_at "sq")
  | (refine .inr ?_; walk_at "sq"))
local macro_rules | `(tactic| walk_at "at") => `(tactic| first | rfl | assumption | exact atI_nat (by assumption))
local macro_rules | `(tactic| walk_at "dn1") => `(tactic| first
  | exact Dn.int | exact Dn.str | exact Dn.non | exact Dn.bl | assumption
  | ((refine' Dn.tp ?a1 ?m1 ?l1 ?p1); (case a1 => assumption); (case m1 => walk_at "mem"); (case l1 => (simp only [List.length_cons, List.length_nil]; omega)); (case p1 => walk_at "dns"))
  | ((refine' Dn.lt ?a1 ?m1 ?l1 ?p1); (case a1 => assumption); (case m1 => walk_at "mem"); (case l1 => (simp only [List.length_cons, List.length_nil]; omega)); (case p1 => walk_at "dns")))
local macro_rules | `(tactic| walk_at "dns") => `(tactic| first | exact Paired.nil | exact Dn.ints | ((refine' Paired.cons ?a1 ?b1); (case a1 => walk_at "dn1"); (case b1 => walk_at "dns")))
local macro_rules | `(tactic| walk_at "g1") => `(tactic| first
  | ((with_reducible refine' g_ixI ?h1 ?h2 ?h3 ?_); (case h1 => assumption); (case h2 => walk_at "mem"); (case h3 => omega); intro z hz)
  | ((with_reducible refine' g_ixIT ?h1 ?h2 ?h3 ?_); (case h1 => assumption); (case h2 => walk_at "mem"); (case h3 => omega); intro z hz)
  | ((with_reducible refine' g_setI ?h1 ?h2 ?h3 ?_); (case h1 => assumption); (case h2 => walk_at "pk"); (case h3 => omega); intro H2 hh2)
  | ((with_reducible refine' w_ixL ?h1 ?h2 ?_); (case h1 => walk_at "sq"); (case h2 => walk_at "at"))
  | ((with_reducible refine' w_ixT ?h1 ?h2 ?_); (case h1 => walk_at "sq"); (case h2 => walk_at "at"))
  | ((with_reducible refine' w_ixAny ?h1 ?h2 ?_); (case h1 => walk_at "sq"); (case h2 => walk_at "at"))
  | ((with_reducible refine' c_lenA ?h1 ?_); (case h1 => walk_at "sq"))
  | ((with_reducible refine' c_isi ?t1 ?k1 ?_); (case t1 => first | exact ty_T (by walk_at "sq") | exact ty_L (by walk_at "sq")); (case k1 => walk_at "kit"))
  | ((with_reducible refine' g_lst ?h1 ?h2 ?_); (case h1 => assumption); (case h2 => walk_at "sz"); intro p H2 hh2)
  | ((with_reducible refine' g_tup ?h1 ?h2 ?_); (case h1 => assumption); (case h2 => walk_at "sz"); intro p H2 hh2)
  | ((with_reducible refine' g_dict ?h1 ?_); (case h1 => assumption); intro p H2 hh2)
  | ((with_reducible refine' g_listL ?h1 ?h2 ?_); (case h1 => assumption); (case h2 => walk_at "sq"); intro p H2 hh2)
  | ((with_reducible refine' g_listT ?h1 ?h2 ?_); (case h1 => assumption); (case h2 => walk_at "sq"); intro p H2 hh2)
  | ((with_reducible refine' g_tupL ?h1 ?h2 ?_); (case h1 => assumption); (case h2 => walk_at "sq"); intro p H2 hh2)
  | ((with_reducible refine' g_set ?h1 ?h2 ?h3 ?_); (case h1 => assumption); (case h2 => walk_at "pk"); (case h3 => first | rfl | assumption | exact Evl.ixN_nat (by first | omega | (simp only [List.length_cons, List.length_nil]; omega))); intro H2 hh2)
  | ((with_reducible refine' g_kbm ?h1 ?h2 ?_); (case h1 => assumption); (case h2 => walk_at "mem"))
  | ((with_reducible refine' g_kbm0 ?h1 ?h2 ?_); (case h1 => assumption); (case h2 => walk_at "mem"))
  | ((with_reducible refine' g_app ?h1 ?h2 ?h3 ?_); (case h1 => assumption); (case h2 => walk_at "pk"); (case h3 => walk_at "sz"); intro H2 hh2)
  | ((with_reducible refine' g_kapp ?h1 ?h2 ?h3 ?_); (case h1 => assumption); (case h2 => walk_at "pk"); (case h3 => walk_at "sz"); intro H2 hh2)
  | ((with_reducible refine' g_fld ?h1 ?h2 ?h3 ?h4 ?h5 ?_); (case h1 => assumption); (case h2 => walk_at "mem"); (case h3 => assumption); (case h4 => assumption); (case h5 => rfl))
  | ((with_reducible refine' g_sfld ?h1 ?h2 ?h3 ?h4 ?h5 ?_); (case h1 => assumption); (case h2 => walk_at "pk"); (case h3 => assumption); (case h4 => assumption); (case h5 => decide); intro H2 hh2)
  | ((with_reducible refine' g_meth ?h1 ?h2 ?h3 ?_); (case h1 => assumption); (case h2 => walk_at "mem"); (case h3 => rfl))
  | ((with_reducible refine' g_prop ?h1 ?h2 ?_); (case h1 => assumption); (case h2 => walk_at "mem"))
  | ((with_reducible refine' g_make ?h1 ?_); (case h1 => assumption); intro x H2 hh2)
  | ((with_reducible refine' g_cat ?h1 ?h2 ?h3 ?h4 ?_); (case h1 => assumption); (case h2 => walk_at "mem"); (case h3 => walk_at "mem"); (case h4 => walk_at "sz"); intro p H2 hh2)
  | ((with_reducible refine' g_inT ?h1 ?h2 ?h3 ?h4 ?h5 ?_); (case h1 => assumption); (case h2 => walk_at "mem"); (case h3 => rfl); (case h4 => rfl); (case h5 => rfl)))
local macro_rules | `(tactic| walk_at "gs") => `(tactic| repeat first | walk_at "s1" | walk_at "g1")
local macro_rules | `(tactic| walk_at "ite") => `(tactic| first
  | ((with_reducible refine' w_iteT ?h1 ?_); (case h1 => omega))
  | ((with_reducible refine' w_iteF ?h1 ?_); (case h1 => omega))
  | (with_reducible refine w_ite ?_ ?_ <;> intro hq)
  | ((with_reducible refine' w_iteNT ?h1 ?_); (case h1 => omega))
  | ((with_reducible refine' w_iteNF ?h1 ?_); (case h1 => omega))
  | (with_reducible refine w_iteN ?_ ?_ <;> intro hq))
local macro_rules | `(tactic| walk_at "go") => `(tactic| repeat' first | walk_at "s1" | walk_at "g1" | walk_at "ite")
section
variable {P : Program} {w : World} {K : PySem.W.Frag} {mg : Str → Option Value} {base : Heap} {aREG aOPS : Addr}
/-! ### the draws: what every law draws with -/
/-- the store of draws at st, the script's cells at c -/
def StoreAt (H : Hp) (st c : Addr) : Prop := ∃ (ns : List Int) (i b t z : Int), H st = some (.lst [.ref c, .int i, .int b, .int t, .int z]) ∧ H c = some (.lst (ns.map V.int)) ∧ 0 ≤ i ∧ 0 ≤ b ∧ 0 ≤ z ∧ z < 2147483647
theorem StoreAt.ne {H : Hp} {st c : Addr} (S : StoreAt H st c) : c ≠ st := by
  obtain ⟨ns, i, b, t, z, h1, h2, _⟩ := S
  refine ne_of h2 h1 fun e => ?_
  cases ns with
  | nil => cases e
  | cons n ns => cases e
theorem StoreAt.upt {H H' : Hp} {st c : Addr} {S : List Addr} (s : StoreAt H st c) (u : Upt S H H') (h1 : st ∉ S) (h2 : c ∉ S) : StoreAt H' st c := by
  obtain ⟨ns, i, b, t, z, e1, e2, r⟩ := s
  exact ⟨ns, i, b, t, z, u _ _ h1 e1, u _ _ h2 e2, r⟩
theorem StoreAt.new {H H' : Hp} {st c p : Addr} {o : HO} (s : StoreAt H st c) (n : New H H' p o) : StoreAt H' st c := s.upt n.keep (by simp) (by simp)
theorem StoreAt.off {H H' : Hp} {st c p : Addr} {o : HO} (s : StoreAt H st c) (n : New H H' p o) : p ≠ st ∧ p ≠ c := by
  obtain ⟨ns, i, b, t, z, e1, e2, r⟩ := s
  exact ⟨n.ne' e1, n.ne' e2⟩
theorem StoreAt.chg {H H' : Hp} {st c p : Addr} {o : HO} (s : StoreAt H st c) (n : Chg H H' p o) (h1 : p ≠ st) (h2 : p ≠ c) : StoreAt H' st c := s.upt n.keep (fun z => h1 (List.mem_singleton.mp z).symm) (fun z => h2 (List.mem_singleton.mp z).symm)
theorem store_chg {H H' : Hp} {st c : Addr} {ns : List Int} {i b t z : Int} (n : Chg H H' st (.lst [.ref c, .int i, .int b, .int t, .int z])) (e : H c = some (.lst (ns.map V.int))) (ne : c ≠ st) (h1 : 0 ≤ i) (h2 : 0 ≤ b) (h3 : 0 ≤ z) (h4 : z < 2147483647) : StoreAt H' st c :=
  ⟨ns, i, b, t, z, n.at_, n.keep.at1 ne e, h1, h2, h3, h4⟩
/-- a number that is drawn: how the store and the heap may stand behind it -/
def Drawn (st c : Addr) (H : Hp) (P : Int → Prop) (Q : VK) : Prop := ∀ (k : Int) (H' : Hp), P k → StoreAt H' st c → Upt [st] H H' → Q (.int k) H'
/-- number and turn give something from 0 to many - 1 -/
def sp_mixed : Sp := fun vs H Q _ => ∃ n t m : Int, vs = [.int n, .int t, .int m] ∧ 0 < m ∧ ∀ k : Int, 0 ≤ k → k < m → Q (.int k) H
theorem c_mixed (T : Txt K mg aREG aOPS) (d : DefAt K mg "_law_mixed" s__law_mixed) : C8.Cal P w K mg base 1 "_law_mixed" sp_mixed [] := by
  refine mk d sc__law_mixed (fun _ _ _ _ _ _ us hl => match us, hl with | [_, _, _], _ => rfl) (fun vs H Q E h => ?_) (fun f cdv A outer s H vs Q E hr h => ?_)
  · obtain ⟨n, t, m, rfl, _⟩ := h
    rfl
  · obtain ⟨n, t, m, rfl, hm, k⟩ := h
    refine ⟨_, (pss_cons (ps_set (i := 3) sc__law_mixed.nd rfl (Or.inl rfl) (pe_op op_mod (pe_callTy Wk.b_int (by rfl) T.b_int (by decide +kernel) (pa_cons (pe_op op_add (pe_op op_add (pe_op op_mul (pe_callTy Wk.b_int (by rfl) T.b_int (by decide +kernel) (pa_cons (pv 0) pa_nil)) pe_int) (pe_op op_mul (pe_callTy Wk.b_int (by rfl) T.b_int (by decide +kernel) (pa_cons (pv 1) pa_nil)) pe_int)) pe_int) pa_nil)) pe_int))
  (pss_cons (ps_set (i := 4) sc__law_mixed.nd rfl (Or.inl rfl) (pe_op op_mod (pe_callTy Wk.b_int (by rfl) T.b_int (by decide +kernel) (pa_cons (pe_op op_add (pe_op op_add (pe_op op_mul (pv 3) (pv 3)) (pe_op op_mul (pe_callTy Wk.b_int (by rfl) T.b_int (by decide +kernel) (pa_cons (pv 1) pa_nil)) pe_int)) pe_int) pa_nil)) pe_int))
  (pss_cons (ps_set (i := 5) sc__law_mixed.nd rfl (Or.inl rfl) (pe_op op_mod (pe_callTy Wk.b_int (by rfl) T.b_int (by decide +kernel) (pa_cons (pe_op op_add (pe_op op_mul (pv 4) (pv 4)) (pv 3)) pa_nil)) pe_int))
  (pss_cons (ps_if (pt_cmpR op_gt (pv 2) pe_int (nomark _))
    (pss_one (ps_ret (pe_op op_mod (pe_callTy Wk.b_int (by rfl) T.b_int (by decide +kernel) (pa_cons (pe_op op_add (pe_op op_mul (pv 4) pe_int) (pv 5)) pa_nil)) (pv 2))))
    pss_nil)
  (pss_one (ps_ret (pe_op op_mod (pv 5) (pv 2)))))))), ?_⟩
    walk_at "s"
    refine w_ite (fun h1 => ?_) (fun h1 => ?_)
    all_goals walk_at "s"
    all_goals exact k _ (Int.emod_nonneg _ (by omega)) (Int.emod_lt_of_pos _ hm)
theorem u_mixed {n t m : Int} {H : Hp} {Q : VK} {E : XK} (hm : 0 < m) (q : ∀ k : Int, 0 ≤ k → k < m → Q (.int k) H) : sp_mixed [.int n, .int t, .int m] H Q E := ⟨n, t, m, rfl, hm, q⟩
def sp_store (K : PySem.W.Frag) : Sp := fun vs H Q _ => ∃ (a : Addr) (ns : List Int) (salt : Int), vs = [.ref a, .int salt] ∧ SqL K H a (ns.map V.int) ∧ ns.length ≤ 63 ∧ 0 ≤ salt ∧ salt ≤ 200000 ∧
  ∀ st c H', H st = none → H c = none → StoreAt H' st c → Upt [] H H' → Q (.ref st) H'
theorem c_store (T : Txt K mg aREG aOPS) (d : DefAt K mg "_law_store" s__law_store) : C8.Cal P w K mg base 1 "_law_store" (sp_store K) [] := by
  refine mk d sc__law_store (fun _ _ _ _ _ _ us hl => match us, hl with | [_, _], _ => rfl) (fun vs H Q E h => ?_) (fun f cdv A outer s H vs Q E hr h => ?_)
  · obtain ⟨a, ns, z, rfl, _⟩ := h
    rfl
  · obtain ⟨a, ns, z, rfl, hS, hl, hz0, hz1, k⟩ := h
    refine ⟨_, (pss_cons (ps_set (i := 2) sc__law_store.nd rfl (Or.inl rfl) (pe_op op_add (pe_op op_mul (pv 1) pe_int) (pe_callB Wk.b_len (by rfl) T.b_len (by decide +kernel) (pa_cons (pv 0) pa_nil))))
  (pss_cons (ps_for PassesOwn.never rfl (pi_list (pv 0)) (pg_name (i := 3) sc__law_store.nd rfl (Or.inl rfl))
    (pss_one (ps_set (i := 2) sc__law_store.nd rfl (Or.inl rfl) (pe_op op_mod (pe_callTy Wk.b_int (by rfl) T.b_int (by decide +kernel) (pa_cons (pe_op op_add (pe_op op_add (pe_op op_mul (pv 2) pe_int) (pe_op op_mod (pe_callTy Wk.b_int (by rfl) T.b_int (by decide +kernel) (pa_cons (pv 3) pa_nil)) pe_int)) pe_int) pa_nil)) pe_int))))
  (pss_one (ps_ret (pe_lst (pa_cons (pe_callTy Wk.b_list (by rfl) T.b_list (by decide +kernel) (pa_cons (pv 0) pa_nil)) (pa_cons pe_int (pa_cons pe_int (pa_cons pe_int (pa_cons (pv 2) pa_nil)))))))))), ?_⟩
    walk_at "s"
    refine c_lenL hS ?_
    walk_at "s"
    refine l_list hS (fun i σ H2 => H2 = H ∧ ∃ (s : Int) (v : Option V), σ = [some (.ref a), some (.int z), some (.int s), v] ∧ 0 ≤ s ∧ s < 2147483647) ⟨rfl, _, _, rfl, ?_, ?_⟩ (fun i σ H2 _ ⟨e, _⟩ => by rw [e]; exact hS) ?_ ?_
    · rw [List.length_map]; omega
    · rw [List.length_map]; omega
    · rintro i y σ H2 hi ⟨rfl, s, v, rfl, h0, h1⟩
      obtain ⟨n, rfl⟩ := item_int hi
      walk_at "s"
      exact ⟨rfl, _, _, rfl, Int.emod_nonneg _ (by omega), Int.emod_lt_of_pos _ (by omega)⟩
    · rintro σ H2 ⟨rfl, s, v, rfl, h0, h1⟩
      walk_at "s"
      refine c_listL hS fun c H3 n3 => ?_
      walk_at "s"
      refine w_new (by walk_at "sz") fun st H4 n4 => ?_
      have e := n4.keep.at0 n3.at_
      exact k st c H4 (n3.keep.free (by simp) n4.no) n3.no ⟨ns, 0, 0, 0, s, n4.at_, e, by omega, by omega, h0, h1⟩ (n3.keep.trans n4.keep)
theorem u_store {a : Addr} {ns : List Int} {z : Int} {H : Hp} {Q : VK} {E : XK} (h : SqL K H a (ns.map V.int)) (hl : ns.length ≤ 63) (h0 : 0 ≤ z) (h1 : z ≤ 200000) (q : ∀ st c H', H st = none → H c = none → StoreAt H' st c → Upt [] H H' → Q (.ref st) H') : sp_store K [.ref a, .int z] H Q E :=
  ⟨a, ns, z, rfl, h, hl, h0, h1, q⟩
def sp_take : Sp := fun vs H Q _ => ∃ (st c : Addr) (m : Int), vs = [.ref st, .int m] ∧ StoreAt H st c ∧ m ≤ 4611686018427387904 ∧ Drawn st c H (fun k => 0 ≤ k ∧ (k < m ∨ k = 0)) Q
theorem c_take (T : Txt K mg aREG aOPS) (d : DefAt K mg "_law_take" s__law_take) (c__law_mixed : C8.Cal P w K mg base 1 "_law_mixed" sp_mixed []) : C8.Cal P w K mg base 2 "_law_take" sp_take [] := by
  refine mk d sc__law_take (fun _ _ _ _ _ _ us hl => match us, hl with | [_, _], _ => rfl) (fun vs H Q E h => ?_) (fun f cdv A outer s H vs Q E hr h => ?_)
  · obtain ⟨st, c, m, rfl, _⟩ := h
    rfl
  · obtain ⟨st, c, m, rfl, S, hm, k⟩ := h
    have ne := S.ne
    obtain ⟨ns, i, b, t, z, h1, h2, hi, hb, hz0, hz1⟩ := S
    refine ⟨_, (pss_cons (ps_augS (pv 0) pe_int Wk.get_list pe_int ip_add set_list)
  (pss_cons (ps_if (pt_cmpR op_lt (pv 1) pe_int (nomark _))
    (pss_one (ps_ret pe_int))
    pss_nil)
  (C8.pss_cut (ps_if (PW.pt (pw_and (pt_cmpR op_eq (pe_ix ix_list (pv 0) pe_int (fun _ _ => rfl)) pe_int (nomark _)) (pw_and1 (pt_cmpR op_lt (pe_ix ix_list (pv 0) pe_int (fun _ _ => rfl)) (pe_callB Wk.b_len (by rfl) T.b_len (by decide +kernel) (pa_cons (pe_ix ix_list (pv 0) pe_int (fun _ _ => rfl)) pa_nil)) (nomark _)))))
    (pss_cons (ps_set (i := 2) sc__law_take.nd rfl (Or.inl rfl) (pe_callTy Wk.b_int (by rfl) T.b_int (by decide +kernel) (pa_cons (pe_ix ix_list (pe_ix ix_list (pv 0) pe_int (fun _ _ => rfl)) (pe_ix ix_list (pv 0) pe_int (fun _ _ => rfl)) (fun _ _ => rfl)) pa_nil)))
      (pss_cons (ps_augS (pv 0) pe_int Wk.get_list pe_int ip_add set_list)
      (pss_cons (ps_if (pt_cmpR op_lt (pe_callB Wk.b_abs (by rfl) T.b_abs (by decide +kernel) (pa_cons (pv 2) pa_nil)) (pe_op op_pow pe_int pe_int) (nomark _))
        (pss_one (ps_ret (C8.pe_c c__law_mixed hr (by first | decide | omega) rfl (pa_cons (pv 2) (pa_cons (pe_ix ix_list (pv 0) pe_int (fun _ _ => rfl)) (pa_cons (pv 1) pa_nil))))))
        pss_nil)
      (pss_one (ps_asg (pe_callB Wk.b_abs (by rfl) T.b_abs (by decide +kernel) (pa_cons (pv 2) pa_nil)) (pg_sub (pv 0) pe_int set_list))))))
    pss_nil)
  (pss_cons (ps_if (pt_cmpR op_eq (pe_ix ix_list (pv 0) pe_int (fun _ _ => rfl)) pe_int (nomark _))
    (pss_one (ps_ret (C8.pe_c c__law_mixed hr (by first | decide | omega) rfl (pa_cons (pe_ix ix_list (pv 0) pe_int (fun _ _ => rfl)) (pa_cons (pe_ix ix_list (pv 0) pe_int (fun _ _ => rfl)) (pa_cons (pv 1) pa_nil))))))
    pss_nil)
  (pss_cons (ps_set (i := 3) sc__law_take.nd rfl (Or.inl rfl) (pe_op op_mod (pe_callTy Wk.b_int (by rfl) T.b_int (by decide +kernel) (pa_cons (pe_ix ix_list (pv 0) pe_int (fun _ _ => rfl)) pa_nil)) (pv 1)))
  (pss_cons (ps_asg (pe_op op_fdivW (pe_callTy Wk.b_int (by rfl) T.b_int (by decide +kernel) (pa_cons (pe_ix ix_list (pv 0) pe_int (fun _ _ => rfl)) pa_nil)) (pv 1)) (pg_sub (pv 0) pe_int set_list))
  (pss_one (ps_ret (pv 3))))))))), ?_⟩
    walk_at "s"
    refine w_ixL (SqL.of h1) rfl ?_
    walk_at "s"
    refine w_setI h1 rfl fun H2 g2 => ?_
    walk_at "s"
    have a2 : H2 st = some (.lst [.ref c, .int i, .int b, .int (t + 1), .int z]) := g2.at_
    have e2 : H2 c = some (.lst (ns.map V.int)) := g2.keep.at1 ne h2
    refine w_ite (fun q1 => ?_) (fun q1 => ?_)
    · walk_at "s"
      exact k 0 H2 ⟨by omega, .inr rfl⟩ (store_chg g2 h2 ne hi hb hz0 hz1) g2.keep
    · walk_at "s"
      refine w_cut (fun σ H3 => Upt [st] H H3 ∧ H3 c = some (.lst (ns.map V.int)) ∧ ∃ (i b : Int) (v : Option V), 0 ≤ i ∧ 0 ≤ b ∧ H3 st = some (.lst [.ref c, .int i, .int b, .int (t + 1), .int z]) ∧ σ = [some (.ref st), some (.int m), v, none]) ?_ ?_
      · walk_at "s"
        refine w_ixL (SqL.of a2) rfl ?_
        walk_at "s"
        refine w_ite (fun q2 => ?_) (fun q2 => ?_)
        · walk_at "s"
          refine w_ixL (SqL.of a2) rfl ?_
          walk_at "s"
          refine w_ixL (SqL.of a2) rfl ?_
          walk_at "s"
          refine c_lenL (SqL.of e2) ?_
          walk_at "s"
          rw [List.length_map]
          refine w_ite (fun q3 => ?_) (fun q3 => ?_)
          · obtain ⟨n, hn, hat⟩ := atI_ints hi q3
            walk_at "s"
            refine w_ixL (SqL.of a2) rfl ?_
            walk_at "s"
            refine w_ixL (SqL.of a2) rfl ?_
            walk_at "s"
            refine w_ixL (SqL.of e2) hat ?_
            walk_at "s"
            refine w_ixL (SqL.of a2) rfl ?_
            walk_at "s"
            refine w_setI a2 rfl fun H3 g3 => ?_
            walk_at "s"
            have a3 : H3 st = some (.lst [.ref c, .int (i + 1), .int b, .int (t + 1), .int z]) := g3.at_
            have e3 : H3 c = some (.lst (ns.map V.int)) := g3.keep.at1 ne e2
            refine w_ite (fun q4 => ?_) (fun q4 => ?_)
            · walk_at "s"
              refine w_ixL (SqL.of a3) rfl ?_
              walk_at "s"
              refine u_mixed (by omega) fun v hv0 hv1 => ?_
              exact k v H3 ⟨hv0, .inl hv1⟩ ⟨ns, _, _, _, _, a3, e3, by omega, hb, hz0, hz1⟩ (g2.keep.trans g3.keep)
            · walk_at "s"
              refine w_setI a3 rfl fun H4 g4 => ?_
              walk_at "s"
              have hb4 : 0 ≤ (if n < 0 then -n else n) := by split <;> omega
              exact ⟨(g2.keep.trans g3.keep).trans g4.keep, g4.keep.at1 ne e3, _, _, _, by omega, hb4, g4.at_, rfl⟩
          · walk_at "s"
            exact ⟨g2.keep, e2, _, _, _, hi, hb, a2, rfl⟩
        · walk_at "s"
          exact ⟨g2.keep, e2, _, _, _, hi, hb, a2, rfl⟩
      · rintro σ H3 ⟨u3, e3, i3, b3, v, hi3, hb3, a3, rfl⟩
        walk_at "s"
        refine w_ixL (SqL.of a3) rfl ?_
        walk_at "s"
        refine w_ite (fun q2 => ?_) (fun q2 => ?_)
        · walk_at "s"
          refine w_ixL (SqL.of a3) rfl ?_
          walk_at "s"
          refine w_ixL (SqL.of a3) rfl ?_
          walk_at "s"
          refine u_mixed (by omega) fun v hv0 hv1 => ?_
          exact k v H3 ⟨hv0, .inl hv1⟩ ⟨ns, _, _, _, _, a3, e3, hi3, hb3, hz0, hz1⟩ u3
        · walk_at "s"
          refine w_ixL (SqL.of a3) rfl ?_
          walk_at "s"
          refine w_ixL (SqL.of a3) rfl ?_
          walk_at "s"
          refine w_setI a3 rfl fun H4 g4 => ?_
          walk_at "s"
          exact k _ H4 ⟨Int.emod_nonneg _ (by omega), .inl (Int.emod_lt_of_pos _ (by omega))⟩ ⟨ns, _, _, _, _, g4.at_, g4.keep.at1 ne e3, hi3, Int.ediv_nonneg hb3 (by omega), hz0, hz1⟩ (u3.trans g4.keep)
theorem u_take {st c : Addr} {m : Int} {H : Hp} {Q : VK} {E : XK} (S : StoreAt H st c) (hm : m ≤ 4611686018427387904) (q : ∀ k H', 0 ≤ k ∧ (k < m ∨ k = 0) → StoreAt H' st c → Upt [st] H H' → Q (.int k) H') : sp_take [.ref st, .int m] H Q E :=
  ⟨st, c, m, rfl, S, hm, q⟩
end
end K24
set_option Elab.async false
set_option linter.all false
set_option maxRecDepth 100000
set_option maxHeartbeats 4000000
namespace K24
open PySem PySem.Spec PyProof.Rows L2 Wk
local macro_rules | `(tactic| walk_at "u1") => `(tactic| fail "no more")
local macro_rules | `(tactic| walk_at "pos") => `(tactic| first | assumption | omega | decide | (simp only [Int.ofNat_eq_natCast] at *; omega))
local macro_rules | `(tactic| walk_at "sz") => `(tactic| first
  | (simp only [List.length_cons, List.length_nil]; decide)
  | exact Evl.sz_of (by omega)
  | exact Evl.sz_lt (by omega)
  | exact Evl.sz_of (by simp only [List.length_map, List.length_append, List.length_cons, List.length_nil, List.length_replicate]; omega)
  | exact Evl.sz_lt (by simp only [List.length_map, List.length_append, List.length_cons, List.length_nil, List.length_replicate]; omega))
local macro_rules | `(tactic| walk_at "cond") => `(tactic| first
  | exact Or.inr ⟨by decide, by decide⟩
  | (show (0 : Int) < _; first | decide | assumption | omega)
  | exact Or.inl ⟨by omega, by omega⟩
  | exact Or.inr ⟨by omega, by omega⟩
  | exact ⟨by decide, by decide, by decide⟩
  | exact log2_lt (by omega) (by omega)
  | exact ⟨by omega, by omega⟩)
local macro_rules | `(tactic| walk_at "ty") => `(tactic| first
  | exact ty_int | exact ty_bl | exact ty_str | exact ty_non
  | exact ty_L (by assumption) | exact ty_T (by assumption)
  | exact ty_L (SqL.of (by assumption)) | exact ty_T (SqT.of (by assumption)))
local macro_rules | `(tactic| walk_at "kit") => `(tactic| first
  | exact k_ii | exact k_ib | exact k_is | exact k_il | exact k_it
  | exact k_bb | exact k_bi | exact k_bs | exact k_bl | exact k_bt
  | exact k_ss | exact k_sb | exact k_si | exact k_sl | exact k_st
  | exact k_ll | exact k_lb | exact k_li | exact k_ls | exact k_lt
  | exact k_tt | exact k_tb | exact k_ti | exact k_ts | exact k_tl
  | exact k_nn | exact k_ni | exact k_ns | exact k_nl | exact k_nt)
local macro_rules | `(tactic| walk_at "s1") => `(tactic| first
  | with_reducible refine w_seq ?_
  | with_reducible refine w_set ?_
  | with_reducible refine w_op ?_
  | ((with_reducible refine' w_var ?h1 ?_); (case h1 => rfl))
  | with_reducible refine w_c ?_
  | with_reducible refine w_cb ?_
  | with_reducible refine w_cons ?_
  | with_reducible refine w_nil ?_
  | with_reducible refine w_I0 ?_
  | ((with_reducible refine' w_I ?c1 ?_); case c1 => walk_at "cond")
  | with_reducible refine w_ret ?_
  | with_reducible refine w_next ?_
  | with_reducible refine w_ifS ?_
  | with_reducible refine w_test ?_
  | with_reducible refine w_tB ?_
  | with_reducible refine w_k ?_
  | with_reducible refine w_eqI ?_
  | with_reducible refine w_neI ?_
  | with_reducible refine w_eqS ?_
  | with_reducible refine w_neS ?_
  | with_reducible refine w_and ?_
  | with_reducible refine w_or ?_
  | with_reducible refine w_not ?_
  | with_reducible refine w_andV ?_
  | with_reducible refine w_orV ?_
  | with_reducible refine w_notV ?_
  | with_reducible refine w_ifE ?_
  | with_reducible refine w_true ?_
  | with_reducible refine w_false ?_
  | with_reducible refine w_ntrue ?_
  | with_reducible refine w_nfalse ?_
  | with_reducible refine w_call ?_
  | with_reducible refine c_int ?_
  | with_reducible refine c_abs ?_
  | with_reducible refine c_max ?_
  | with_reducible refine c_min ?_
  | with_reducible refine w_drop ?_
  | with_reducible refine w_sfld ?_
  | with_reducible refine w_meth ?_
  | with_reducible refine w_make ?_
  | with_reducible refine w_prop ?_
  | with_reducible refine w_callK ?_
  | with_reducible refine w_callN ?_
  | with_reducible refine w_star ?_
  | with_reducible refine w_gcons ?_
  | with_reducible refine w_gname ?_
  | with_reducible refine w_gnil ?_
  | with_reducible refine w_retN ?_
  | with_reducible refine w_tup ?_
  | with_reducible refine w_lst ?_
  | with_reducible refine w_fld ?_
  | with_reducible refine w_bm ?_
  | with_reducible refine w_bm0 ?_
  | with_reducible refine w_forL ?_
  | with_reducible refine w_forT ?_
  | with_reducible refine w_forS ?_
  | with_reducible refine w_forR ?_
  | with_reducible refine w_lcR ?_
  | with_reducible refine w_lcL ?_
  | with_reducible refine w_lcT ?_
  | with_reducible refine w_isN ?_
  | with_reducible refine w_notN ?_
  | with_reducible refine w_asg ?_
  | with_reducible refine w_gsub ?_
  | ((with_reducible refine' w_aug ?h1 ?_); (case h1 => rfl))
  | with_reducible refine w_augS ?_
  | with_reducible refine w_ipI ?_
  | with_reducible refine w_un ?_
  | with_reducible refine w_U ?_
  | ((with_reducible refine' w_iteF ?f1 ?_); case f1 => (first | (intro h; cases h; done) | decide))
  | ((with_reducible refine' w_iteT ?f1 ?_); case f1 => rfl)
  | ((with_reducible refine' w_iteNF ?f1 ?_); case f1 => rfl)
  | ((with_reducible refine' w_iteNT ?f1 ?_); case f1 => (first | (intro h; cases h; done) | decide))
  | ((with_reducible refine' c_isi ?t1 ?k1 ?_); (case t1 => walk_at "ty"); (case k1 => walk_at "kit"))
  | ((with_reducible refine' w_eq ?e1 ?_); case e1 => rfl)
  | ((with_reducible refine' w_ne ?e1 ?_); case e1 => rfl)
  | walk_at "u1")
local macro_rules | `(tactic| walk_at "s") => `(tactic| repeat walk_at "s1")
local macro_rules | `(tactic| walk_at "mem") => `(tactic| first | with_reducible exact List.mem_cons_self .. | ((with_reducible refine' List.mem_cons_of_mem _ ?q); (case q => walk_at "mem")) | assumption | ((with_reducible refine' List.mem_append_right _ ?q); (case q => walk_at "mem")) | (exact List.mem_append_left _ (by assumption)))
local macro_rules | `(tactic| walk_at "pk") => `(tactic| first | with_reducible exact Pk.here | ((with_reducible refine' Pk.there ?q); (case q => walk_at "pk")) | ((with_reducible refine' Pk.app ?q); (case q => walk_at "pk")))
local macro_rules | `(tactic| walk_at "pkb") => `(tactic| first | with_reducible exact PkB.here | ((with_reducible refine' PkB.there ?q); (case q => walk_at "pkb")) | ((with_reducible refine' PkB.app ?q); (case q => walk_at "pkb")))
local macro_rules | `(tactic| walk_at "spl") => `(tactic| first | with_reducible exact Spl.nil | ((with_reducible refine' Spl.cons ?h ?t); (case h => walk_at "pk"); (case t => walk_at "spl")) | ((with_reducible refine' Spl.blk ?h ?t); (case h => walk_at "pkb"); (case t => walk_at "spl")))
local macro_rules | `(tactic| walk_at "sbx") => `(tactic| first | with_reducible exact Sb.refl | with_reducible exact Sb.nil | with_reducible exact Sb.left | ((with_reducible refine' Sb.cons ?h ?t); (case h => walk_at "pk"); (case t => walk_at "sbx")) | ((with_reducible refine' Sb.blk ?h ?t); (case h => walk_at "pkb"); (case t => walk_at "sbx")) | ((with_reducible refine' Sb.drop ?q); (case q => walk_at "sbx")) | ((with_reducible refine' Sb.right ?q); (case q => walk_at "sbx")))
local macro_rules | `(tactic| walk_at "hd") => `(tactic| first | assumption | exact Hd.sb (by assumption) (by walk_at "sbx"))
local macro_rules | `(tactic| walk_at "sq") => `(tactic| first
  | assumption
  | exact Hd.sqL (by assumption) (by walk_at "mem")
  | exact Hd.sqT (by assumption) (by walk_at "mem")
  | exact Hd.sqF (by assumption) (by walk_at "mem")
  | (refine .inl ?_; walk_at "sq")
  | (refine .inr ?_; walk_at "sq"))
local macro_rules | `(tactic| walk_at "at") => `(tactic| first | rfl | assumption | exact atI_nat (by assumption))
local macro_rules | `(tactic| walk_at "dn1") => `(tactic| first
  | exact Dn.int | exact Dn.str | exact Dn.non | exact Dn.bl | assumption
  | ((refine' Dn.tp ?a1 ?m1 ?l1 ?p1); (case a1 => assumption); (case m1 => walk_at "mem"); (case l1 => (simp only [List.length_cons, List.length_nil]; omega)); (case p1 => walk_at "dns"))
  | ((refine' Dn.lt ?a1 ?m1 ?l1 ?p1); (case a1 => assumption); (case m1 => walk_at "mem"); (case l1 => (simp only [List.length_cons, List.length_nil]; omega)); (case p1 => walk_at "dns")))
local macro_rules | `(tactic| walk_at "dns") => `(tactic| first | exact Paired.nil | exact Dn.ints | ((refine' Paired.cons ?a1 ?b1); (case a1 => walk_at "dn1"); (case b1 => walk_at "dns")))
local macro_rules | `(tactic| walk_at "g1") => `(tactic| first
  | ((with_reducible refine' g_ixI ?h1 ?h2 ?h3 ?_); (case h1 => assumption); (case h2 => walk_at "mem"); (case h3 => omega); intro z hz)
  | ((with_reducible refine' g_ixIT ?h1 ?h2 ?h3 ?_); (case h1 => assumption); (case h2 => walk_at "mem"); (case h3 => omega); intro z hz)
  | ((with_reducible refine' g_setI ?h1 ?h2 ?h3 ?_); (case h1 => assumption); (case h2 => walk_at "pk"); (case h3 => omega); intro H2 hh2)
  | ((with_reducible refine' w_ixL ?h1 ?h2 ?_); (case h1 => walk_at "sq"); (case h2 => walk_at "at"))
  | ((with_reducible refine' w_ixT ?h1 ?h2 ?_); (case h1 => walk_at "sq"); (case h2 => walk_at "at"))
  | ((with_reducible refine' w_ixAny ?h1 ?h2 ?_); (case h1 => walk_at "sq"); (case h2 => walk_at "at"))
  | ((with_reducible refine' c_lenA ?h1 ?_); (case h1 => walk_at "sq"))
  | ((with_reducible refine' c_isi ?t1 ?k1 ?_); (case t1 => first | exact ty_T (by walk_at "sq") | exact ty_L (by walk_at "sq")); (case k1 => walk_at "kit"))
  | ((with_reducible refine' g_lst ?h1 ?h2 ?_); (case h1 => assumption); (case h2 => walk_at "sz"); intro p H2 hh2)
  | ((with_reducible refine' g_tup ?h1 ?h2 ?_); (case h1 => assumption); (case h2 => walk_at "sz"); intro p H2 hh2)
  | ((with_reducible refine' g_dict ?h1 ?_); (case h1 => assumption); intro p H2 hh2)
  | ((with_reducible refine' g_listL ?h1 ?h2 ?_); (case h1 => assumption); (case h2 => walk_at "sq"); intro p H2 hh2)
  | ((with_reducible refine' g_listT ?h1 ?h2 ?_); (case h1 => assumption); (case h2 => walk_at "sq"); intro p H2 hh2)
  | ((with_reducible refine' g_tupL ?h1 ?h2 ?_); (case h1 => assumption); (case h2 => walk_at "sq"); intro p H2 hh2)
  | ((with_reducible refine' g_set ?h1 ?h2 ?h3 ?_); (case h1 => assumption); (case h2 => walk_at "pk"); (case h3 => first | rfl | assumption | exact Evl.ixN_nat (by first | omega | (simp only [List.length_cons, List.length_nil]; omega))); intro H2 hh2)
  | ((with_reducible refine' g_kbm ?h1 ?h2 ?_); (case h1 => assumption); (case h2 => walk_at "mem"))
  | ((with_reducible refine' g_kbm0 ?h1 ?h2 ?_); (case h1 => assumption); (case h2 => walk_at "mem"))
  | ((with_reducible refine' g_app ?h1 ?h2 ?h3 ?_); (case h1 => assumption); (case h2 => walk_at "pk"); (case h3 => walk_at "sz"); intro H2 hh2)
  | ((with_reducible refine' g_kapp ?h1 ?h2 ?h3 ?_); (case h1 => assumption); (case h2 => walk_at "pk"); (case h3 => walk_at "sz"); intro H2 hh2)
  | ((with_reducible refine' g_fld ?h1 ?h2 ?h3 ?h4 ?h5 ?_); (case h1 => assumption); (case h2 => walk_at "mem"); (case h3 => assumption); (case h4 => assumption); (case h5 => rfl))
  | ((with_reducible refine' g_sfld ?h1 ?h2 ?h3 ?h4 ?h5 ?_); (case h1 => assumption); (case h2 => walk_at "pk"); (case h3 => assumption); (case h4 => assumption); (case h5 => decide); intro H2 hh2)
  | ((with_reducible refine' g_meth ?h1 ?h2 ?h3 ?_); (case h1 => assumption); (case h2 => walk_at "mem"); (case h3 => rfl))
  | ((with_reducible refine' g_prop ?h1 ?h2 ?_); (case h1 => assumption); (case h2 => walk_at "mem"))
  | ((with_reducible refine' g_make ?h1 ?_); (case h1 => assumption); intro x H2 hh2)
  | ((with_reducible refine' g_cat ?h1 ?h2 ?h3 ?h4 ?_); (case h1 => assumption); (case h2 => walk_at "mem"); (case h3 => walk_at "mem"); (case h4 => walk_at "sz"); intro p H2 hh2)
  | ((with_reducible refine' g_inT ?h1 ?h2 ?h3 ?h4 ?h5 ?_); (case h1 => assumption); (case h2 => walk_at "mem"); (case h3 => rfl); (case h4 => rfl); (case h5 => rfl)))
local macro_rules | `(tactic| walk_at "gs") => `(tactic| repeat first | walk_at "s1" | walk_at "g1")
local macro_rules | `(tactic| walk_at "ite") => `(tactic| first
  | ((with_reducible refine' w_iteT ?h1 ?_); (case h1 => omega))
  | ((with_reducible refine' w_iteF ?h1 ?_); (case h1 => omega))
  | (with_reducible refine w_ite ?_ ?_ <;> intro hq)
  | ((with_reducible refine' w_iteNT ?h1 ?_); (case h1 => omega))
  | ((with_reducible refine' w_iteNF ?h1 ?_); (case h1 => omega))
  | (with_reducible refine w_iteN ?_ ?_ <;> intro hq))
local macro_rules | `(tactic| walk_at "go") => `(tactic| repeat' first | walk_at "s1" | walk_at "g1" | walk_at "ite")
section
variable {P : Program} {w : World} {K : PySem.W.Frag} {mg : Str → Option Value} {base : Heap} {aREG aOPS : Addr}
def sp_pick (K : PySem.W.Frag) : Sp := fun vs H Q _ => ∃ (st c r : Addr) (xs : List V), vs = [.ref st, .ref r] ∧ StoreAt H st c ∧ SqL K H r xs ∧ r ≠ st ∧ 0 < xs.length ∧ xs.length ≤ 100000 ∧
  ∀ v H', v ∈ xs → StoreAt H' st c → Upt [st] H H' → Q v H'
theorem c_pick (T : Txt K mg aREG aOPS) (d : DefAt K mg "_law_pick" s__law_pick) (c__law_take : C8.Cal P w K mg base 2 "_law_take" sp_take []) : C8.Cal P w K mg base 3 "_law_pick" (sp_pick K) [] := by
  refine mk d sc__law_pick (fun _ _ _ _ _ _ us hl => match us, hl with | [_, _], _ => rfl) (fun vs H Q E h => ?_) (fun f cdv A outer s H vs Q E hr h => ?_)
  · obtain ⟨st, c, r, xs, rfl, _⟩ := h
    rfl
  · obtain ⟨st, c, r, xs, rfl, S, hr1, hne, h0, h1, k⟩ := h
    refine ⟨_, (pss_one (ps_ret (pe_ix ix_list (pv 1) (C8.pe_c c__law_take hr (by first | decide | omega) rfl (pa_cons (pv 0) (pa_cons (pe_callB Wk.b_len (by rfl) T.b_len (by decide +kernel) (pa_cons (pv 1) pa_nil)) pa_nil))) (fun _ _ => rfl)))), ?_⟩
    walk_at "s"
    refine c_lenL hr1 ?_
    walk_at "s"
    refine u_take S (by omega) fun n H2 hn S2 U2 => ?_
    walk_at "s"
    obtain ⟨j, rfl⟩ := Int.eq_ofNat_of_zero_le hn.1
    have hj : j < xs.length := by omega
    refine w_ixL (Upt.seqL U2 (by simpa using hne) hr1) (atI_nat (List.getElem?_eq_getElem hj)) ?_
    exact k _ H2 (List.getElem_mem hj) S2 U2
theorem u_pick {st c r : Addr} {xs : List V} {H : Hp} {Q : VK} {E : XK} (S : StoreAt H st c) (hr : SqL K H r xs) (hne : r ≠ st) (h0 : 0 < xs.length) (h1 : xs.length ≤ 100000) (q : ∀ v H', v ∈ xs → StoreAt H' st c → Upt [st] H H' → Q v H') : sp_pick K [.ref st, .ref r] H Q E :=
  ⟨st, c, r, xs, rfl, S, hr, hne, h0, h1, q⟩
def sp_between : Sp := fun vs H Q _ => ∃ (st c : Addr) (lo hi : Int), vs = [.ref st, .int lo, .int hi] ∧ StoreAt H st c ∧ lo ≤ hi ∧ hi - lo < 4611686018427387904 ∧ Drawn st c H (fun k => lo ≤ k ∧ k ≤ hi) Q
theorem c_between (T : Txt K mg aREG aOPS) (d : DefAt K mg "_law_between" s__law_between) (c__law_take : C8.Cal P w K mg base 2 "_law_take" sp_take []) : C8.Cal P w K mg base 3 "_law_between" sp_between [] := by
  refine mk d sc__law_between (fun _ _ _ _ _ _ us hl => match us, hl with | [_, _, _], _ => rfl) (fun vs H Q E h => ?_) (fun f cdv A outer s H vs Q E hr h => ?_)
  · obtain ⟨st, c, lo, hi, rfl, _⟩ := h
    rfl
  · obtain ⟨st, c, lo, hi, rfl, S, h0, h1, k⟩ := h
    refine ⟨_, (pss_cons (ps_set (i := 3) sc__law_between.nd rfl (Or.inl rfl) (pe_op op_add (pe_op op_sub (pv 2) (pv 1)) pe_int))
  (pss_cons (ps_set (i := 4) sc__law_between.nd rfl (Or.inl rfl) (C8.pe_c c__law_take hr (by first | decide | omega) rfl (pa_cons (pv 0) (pa_cons pe_int pa_nil))))
  (pss_cons (ps_if (pt_cmpR op_eq (pv 4) pe_int (nomark _))
    (pss_one (ps_ret (pe_op op_add (pv 1) (C8.pe_c c__law_take hr (by first | decide | omega) rfl (pa_cons (pv 0) (pa_cons (pe_callB (Wk.b_min rfl) (by rfl) T.b_min (by decide +kernel) (pa_cons (pv 3) (pa_cons pe_int pa_nil))) pa_nil))))))
    pss_nil)
  (pss_cons (ps_if (pt_cmpR op_eq (pv 4) pe_int (nomark _))
    (pss_one (ps_ret (pe_op op_sub (pv 2) (C8.pe_c c__law_take hr (by first | decide | omega) rfl (pa_cons (pv 0) (pa_cons (pe_callB (Wk.b_min rfl) (by rfl) T.b_min (by decide +kernel) (pa_cons (pv 3) (pa_cons pe_int pa_nil))) pa_nil))))))
    pss_nil)
  (pss_one (ps_ret (pe_op op_add (pv 1) (C8.pe_c c__law_take hr (by first | decide | omega) rfl (pa_cons (pv 0) (pa_cons (pv 3) pa_nil)))))))))), ?_⟩
    walk_at "s"
    refine u_take S (by omega) fun n H2 hn S2 U2 => ?_
    walk_at "s"
    refine w_ite (fun q1 => ?_) (fun q1 => ?_)
    · walk_at "s"
      refine u_take S2 (by split <;> omega) fun n2 H3 hn2 S3 U3 => ?_
      walk_at "s"
      exact k _ H3 (by have := hn2.2; split at this <;> omega) S3 (U2.trans U3)
    · walk_at "s"
      refine w_ite (fun q2 => ?_) (fun q2 => ?_)
      · walk_at "s"
        refine u_take S2 (by split <;> omega) fun n2 H3 hn2 S3 U3 => ?_
        walk_at "s"
        exact k _ H3 (by have := hn2.2; split at this <;> omega) S3 (U2.trans U3)
      · walk_at "s"
        refine u_take S2 (by omega) fun n2 H3 hn2 S3 U3 => ?_
        walk_at "s"
        exact k _ H3 (by omega) S3 (U2.trans U3)
theorem u_between {st c : Addr} {lo hi : Int} {H : Hp} {Q : VK} {E : XK} (S : StoreAt H st c) (h0 : lo ≤ hi) (h1 : hi - lo < 4611686018427387904) (q : ∀ k H', lo ≤ k ∧ k ≤ hi → StoreAt H' st c → Upt [st] H H' → Q (.int k) H') : sp_between [.ref st, .int lo, .int hi] H Q E :=
  ⟨st, c, lo, hi, rfl, S, h0, h1, q⟩
def sp_size : Sp := fun vs H Q _ => ∃ (st c : Addr) (m : Int), vs = [.ref st, .int m] ∧ StoreAt H st c ∧ 0 ≤ m ∧ m ≤ 1000000 ∧ Drawn st c H (fun k => 0 ≤ k ∧ k ≤ m) Q
theorem c_size (T : Txt K mg aREG aOPS) (d : DefAt K mg "_law_size" s__law_size) (c__law_take : C8.Cal P w K mg base 2 "_law_take" sp_take []) : C8.Cal P w K mg base 3 "_law_size" sp_size [] := by
  refine mk d sc__law_size (fun _ _ _ _ _ _ us hl => match us, hl with | [_, _], _ => rfl) (fun vs H Q E h => ?_) (fun f cdv A outer s H vs Q E hr h => ?_)
  · obtain ⟨st, c, m, rfl, _⟩ := h
    rfl
  · obtain ⟨st, c, m, rfl, S, h0, h1, k⟩ := h
    refine ⟨_, (pss_cons (ps_set (i := 2) sc__law_size.nd rfl (Or.inl rfl) (C8.pe_c c__law_take hr (by first | decide | omega) rfl (pa_cons (pv 0) (pa_cons pe_int pa_nil))))
  (pss_cons (ps_if (pt_cmpR op_eq (pv 2) pe_int (nomark _))
    (pss_one (ps_ret pe_int))
    pss_nil)
  (pss_cons (ps_if (pt_cmpR op_eq (pv 2) pe_int (nomark _))
    (pss_one (ps_ret (pv 1)))
    pss_nil)
  (pss_cons (ps_if (pt_cmpR op_eq (pv 2) pe_int (nomark _))
    (pss_one (ps_ret (pe_callB (Wk.b_max rfl) (by rfl) T.b_max (by decide +kernel) (pa_cons pe_int (pa_cons (pe_op op_sub (pv 1) pe_int) pa_nil)))))
    pss_nil)
  (pss_cons (ps_if (pt_cmpR op_eq (pv 2) pe_int (nomark _))
    (pss_one (ps_ret (C8.pe_c c__law_take hr (by first | decide | omega) rfl (pa_cons (pv 0) (pa_cons (pe_op op_add (pv 1) pe_int) pa_nil)))))
    pss_nil)
  (pss_one (ps_ret (C8.pe_c c__law_take hr (by first | decide | omega) rfl (pa_cons (pv 0) (pa_cons (pe_op op_add (pe_callB (Wk.b_min rfl) (by rfl) T.b_min (by decide +kernel) (pa_cons (pv 1) (pa_cons pe_int pa_nil))) pe_int) pa_nil)))))))))), ?_⟩
    walk_at "s"
    refine u_take S (by omega) fun n H2 hn S2 U2 => ?_
    walk_at "s"
    refine w_ite (fun q1 => ?_) (fun q1 => ?_)
    · walk_at "s"
      exact k _ H2 (by omega) S2 U2
    · walk_at "s"
      refine w_ite (fun q2 => ?_) (fun q2 => ?_)
      · walk_at "s"
        exact k _ H2 (by omega) S2 U2
      · walk_at "s"
        refine w_ite (fun q3 => ?_) (fun q3 => ?_)
        · walk_at "s"
          exact k _ H2 (by split <;> omega) S2 U2
        · walk_at "s"
          refine w_ite (fun q4 => ?_) (fun q4 => ?_)
          · walk_at "s"
            refine u_take S2 (by omega) fun n2 H3 hn2 S3 U3 => ?_
            exact k _ H3 (by omega) S3 (U2.trans U3)
          · walk_at "s"
            refine u_take S2 (by split <;> omega) fun n2 H3 hn2 S3 U3 => ?_
            exact k _ H3 (by have := hn2.2; split at this <;> omega) S3 (U2.trans U3)
theorem u_size {st c : Addr} {m : Int} {H : Hp} {Q : VK} {E : XK} (S : StoreAt H st c) (h0 : 0 ≤ m) (h1 : m ≤ 1000000) (q : ∀ k H', 0 ≤ k ∧ k ≤ m → StoreAt H' st c → Upt [st] H H' → Q (.int k) H') : sp_size [.ref st, .int m] H Q E :=
  ⟨st, c, m, rfl, S, h0, h1, q⟩
def sp_word : Sp := fun vs H Q _ => ∃ (st c : Addr), vs = [.ref st] ∧ StoreAt H st c ∧ Drawn st c H (fun k => 0 ≤ k ∧ k < 65536) Q
theorem u_word {st c : Addr} {H : Hp} {Q : VK} {E : XK} (S : StoreAt H st c) (q : ∀ k H', 0 ≤ k ∧ k < 65536 → StoreAt H' st c → Upt [st] H H' → Q (.int k) H') : sp_word [.ref st] H Q E :=
  ⟨st, c, rfl, S, q⟩
end
end K24
set_option Elab.async false
set_option linter.all false
set_option maxRecDepth 100000
set_option maxHeartbeats 4000000
namespace K24
open PySem PySem.Spec PyProof.Rows L2 Wk
local macro_rules | `(tactic| walk_at "u1") => `(tactic| fail "no more")
local macro_rules | `(tactic| walk_at "pos") => `(tactic| first | assumption | omega | decide | (simp only [Int.ofNat_eq_natCast] at *; omega))
local macro_rules | `(tactic| walk_at "sz") => `(tactic| first
  | (simp only [List.length_cons, List.length_nil]; decide)
  | exact Evl.sz_of (by omega)
  | exact Evl.sz_lt (by omega)
  | exact Evl.sz_of (by simp only [List.length_map, List.length_append, List.length_cons, List.length_nil, List.length_replicate]; omega)
  | exact Evl.sz_lt (by simp only [List.length_map, List.length_append, List.length_cons, List.length_nil, List.length_replicate]; omega))
local macro_rules | `(tactic| walk_at "cond") => `(tactic| first
  | exact Or.inr ⟨by decide, by decide⟩
  | (show (0 : Int) < _; first | decide | assumption | omega)
  | exact Or.inl ⟨by omega, by omega⟩
  | exact Or.inr ⟨by omega, by omega⟩
  | exact ⟨by decide, by decide, by decide⟩
  | exact log2_lt (by omega) (by omega)
  | exact ⟨by omega, by omega⟩)
local macro_rules | `(tactic| walk_at "ty") => `(tactic| first
  | exact ty_int | exact ty_bl | exact ty_str | exact ty_non
  | exact ty_L (by assumption) | exact ty_T (by assumption)
  | exact ty_L (SqL.of (by assumption)) | exact ty_T (SqT.of (by assumption)))
local macro_rules | `(tactic| walk_at "kit") => `(tactic| first
  | exact k_ii | exact k_ib | exact k_is | exact k_il | exact k_it
  | exact k_bb | exact k_bi | exact k_bs | exact k_bl | exact k_bt
  | exact k_ss | exact k_sb | exact k_si | exact k_sl | exact k_st
  | exact k_ll | exact k_lb | exact k_li | exact k_ls | exact k_lt
  | exact k_tt | exact k_tb | exact k_ti | exact k_ts | exact k_tl
  | exact k_nn | exact k_ni | exact k_ns | exact k_nl | exact k_nt)
local macro_rules | `(tactic| walk_at "s1") => `(tactic| first
  | with_reducible refine w_seq ?_
  | with_reducible refine w_set ?_
  | with_reducible refine w_op ?_
  | ((with_reducible refine' w_var ?h1 ?_); (case h1 => rfl))
  | with_reducible refine w_c ?_
  | with_reducible refine w_cb ?_
  | with_reducible refine w_cons ?_
  | with_reducible refine w_nil ?_
  | with_reducible refine w_I0 ?_
  | ((with_reducible refine' w_I ?c1 ?_); case c1 => walk_at "cond")
  | with_reducible refine w_ret ?_
  | with_reducible refine w_next ?_
  | with_reducible refine w_ifS ?_
  | with_reducible refine w_test ?_
  | with_reducible refine w_tB ?_
  | with_reducible refine w_k ?_
  | with_reducible refine w_eqI ?_
  | with_reducible refine w_neI ?_
  | with_reducible refine w_eqS ?_
  | with_reducible refine w_neS ?_
  | with_reducible refine w_and ?_
  | with_reducible refine w_or ?_
  | with_reducible refine w_not ?_
  | with_reducible refine w_andV ?_
  | with_reducible refine w_orV ?_
  | with_reducible refine w_notV ?_
  | with_reducible refine w_ifE ?_
  | with_reducible refine w_true ?_
  | with_reducible refine w_false ?_
  | with_reducible refine w_ntrue ?_
  | with_reducible refine w_nfalse ?_
  | with_reducible refine w_call ?_
  | with_reducible refine c_int ?_
  | with_reducible refine c_abs ?_
  | with_reducible refine c_max ?_
  | with_reducible refine c_min ?_
  | with_reducible refine w_drop ?_
  | with_reducible refine w_sfld ?_
  | with_reducible refine w_meth ?_
  | with_reducible refine w_make ?_
  | with_reducible refine w_prop ?_
  | with_reducible refine w_callK ?_
  | with_reducible refine w_callN ?_
  | with_reducible refine w_star ?_
  | with_reducible refine w_gcons ?_
  | with_reducible refine w_gname ?_
  | with_reducible refine w_gnil ?_
  | with_reducible refine w_retN ?_
  | with_reducible refine w_tup ?_
  | with_reducible refine w_lst ?_
  | with_reducible refine w_fld ?_
  | with_reducible refine w_bm ?_
  | with_reducible refine w_bm0 ?_
  | with_reducible refine w_forL ?_
  | with_reducible refine w_forT ?_
  | with_reducible refine w_forS ?_
  | with_reducible refine w_forR ?_
  | with_reducible refine w_lcR ?_
  | with_reducible refine w_lcL ?_
  | with_reducible refine w_lcT ?_
  | with_reducible refine w_isN ?_
  | with_reducible refine w_notN ?_
  | with_reducible refine w_asg ?_
  | with_reducible refine w_gsub ?_
  | ((with_reducible refine' w_aug ?h1 ?_); (case h1 => rfl))
  | with_reducible refine w_augS ?_
  | with_reducible refine w_ipI ?_
  | with_reducible refine w_un ?_
  | with_reducible refine w_U ?_
  | ((with_reducible refine' w_iteF ?f1 ?_); case f1 => (first | (intro h; cases h; done) | decide))
  | ((with_reducible refine' w_iteT ?f1 ?_); case f1 => rfl)
  | ((with_reducible refine' w_iteNF ?f1 ?_); case f1 => rfl)
  | ((with_reducible refine' w_iteNT ?f1 ?_); case f1 => (first | (intro h; cases h; done) | decide))
  | ((with_reducible refine' c_isi ?t1 ?k1 ?_); (case t1 => walk_at "ty"); (case k1 => walk_at "kit"))
  | ((with_reducible refine' w_eq ?e1 ?_); case e1 => rfl)
  | ((with_reducible refine' w_ne ?e1 ?_); case e1 => rfl)
  | walk_at "u1")
local macro_rules | `(tactic| walk_at "s") => `(tactic| repeat walk_at "s1")
local macro_rules | `(tactic| walk_at "mem") => `(tactic| first | with_reducible exact List.mem_cons_self .. | ((with_reducible refine' List.mem_cons_of_mem _ ?q); (case q => walk_at "mem")) | assumption | ((with_reducible refine' List.mem_append_right _ ?q); (case q => walk_at "mem")) | (exact List.mem_append_left _ (by assumption)))
local macro_rules | `(tactic| walk_at "pk") => `(tactic| first | with_reducible exact Pk.here | ((with_reducible refine' Pk.there ?q); (case q => walk_at "pk")) | ((with_reducible refine' Pk.app ?q); (case q => walk_at "pk")))
local macro_rules | `(tactic| walk_at "pkb") => `(tactic| first | with_reducible exact PkB.here | ((with_reducible refine' PkB.there ?q); (case q => walk_at "pkb")) | ((with_reducible refine' PkB.app ?q); (case q => walk_at "pkb")))
local macro_rules | `(tactic| walk_at "spl") => `(tactic| first | with_reducible exact Spl.nil | ((with_reducible refine' Spl.cons ?h ?t); (case h => walk_at "pk"); (case t => walk_at "spl")) | ((with_reducible refine' Spl.blk ?h ?t); (case h => walk_at "pkb"); (case t => walk_at "spl")))
local macro_rules | `(tactic| walk_at "sbx") => `(tactic| first | with_reducible exact Sb.refl | with_reducible exact Sb.nil | with_reducible exact Sb.left | ((with_reducible refine' Sb.cons ?h ?t); (case h => walk_at "pk"); (case t => walk_at "sbx")) | ((with_reducible refine' Sb.blk ?h ?t); (case h => walk_at "pkb"); (case t => walk_at "sbx")) | ((with_reducible refine' Sb.drop ?q); (case q => walk_at "sbx")) | ((with_reducible refine' Sb.right ?q); (case q => walk_at "sbx")))
local macro_rules | `(tactic| walk_at "hd") => `(tactic| first | assumption | exact Hd.sb (by assumption) (by walk_at "sbx"))
local macro_rules | `(tactic| walk_at "sq") => `(tactic| first
  | assumption
  | exact Hd.sqL (by assumption) (by walk_at "mem")
  | exact Hd.sqT (by assumption) (by walk_at "mem")
  | exact Hd.sqF (by assumption) (by walk_at "mem")
  | (refine .inl ?_; walk_at "sq")
  | (refine .inr ?_; walk_at "sq"))
local macro_rules | `(tactic| walk_at "at") => `(tactic| first | rfl | assumption | exact atI_nat (by assumption))
local macro_rules | `(tactic| walk_at "dn1") => `(tactic| first
  | exact Dn.int | exact Dn.str | exact Dn.non | exact Dn.bl | assumption
  | ((refine' Dn.tp ?a1 ?m1 ?l1 ?p1); (case a1 => assumption); (case m1 => walk_at "mem"); (case l1 => (simp only [List.length_cons, List.length_nil]; omega)); (case p1 => walk_at "dns"))
  | ((refine' Dn.lt ?a1 ?m1 ?l1 ?p1); (case a1 => assumption); (case m1 => walk_at "mem"); (case l1 => (simp only [List.length_cons, List.length_nil]; omega)); (case p1 => walk_at "dns")))
local macro_rules | `(tactic| walk_at "dns") => `(tactic| first | exact Paired.nil | exact Dn.ints | ((refine' Paired.cons ?a1 ?b1); (case a1 => walk_at "dn1"); (case b1 => walk_at "dns")))
local macro_rules | `(tactic| walk_at "g1") => `(tactic| first
  | ((with_reducible refine' g_ixI ?h1 ?h2 ?h3 ?_); (case h1 => assumption); (case h2 => walk_at "mem"); (case h3 => omega); intro z hz)
  | ((with_reducible refine' g_ixIT ?h1 ?h2 ?h3 ?_); (case h1 => assumption); (case h2 => walk_at "mem"); (case h3 => omega); intro z hz)
  | ((with_reducible refine' g_setI ?h1 ?h2 ?h3 ?_); (case h1 => assumption); (case h2 => walk_at "pk"); (case h3 => omega); intro H2 hh2)
  | ((with_reducible refine' w_ixL ?h1 ?h2 ?_); (case h1 => walk_at "sq"); (case h2 => walk_at "at"))
  | ((with_reducible refine' w_ixT ?h1 ?h2 ?_); (case h1 => walk_at "sq"); (case h2 => walk_at "at"))
  | ((with_reducible refine' w_ixAny ?h1 ?h2 ?_); (case h1 => walk_at "sq"); (case h2 => walk_at "at"))
  | ((with_reducible refine' c_lenA ?h1 ?_); (case h1 => walk_at "sq"))
  | ((with_reducible refine' c_isi ?t1 ?k1 ?_); (case t1 => first | exact ty_T (by walk_at "sq") | exact ty_L (by walk_at "sq")); (case k1 => walk_at "kit"))
  | ((with_reducible refine' g_lst ?h1 ?h2 ?_); (case h1 => assumption); (case h2 => walk_at "sz"); intro p H2 hh2)
  | ((with_reducible refine' g_tup ?h1 ?h2 ?_); (case h1 => assumption); (case h2 => walk_at "sz"); intro p H2 hh2)
  | ((with_reducible refine' g_dict ?h1 ?_); (case h1 => assumption); intro p H2 hh2)
  | ((with_reducible refine' g_listL ?h1 ?h2 ?_); (case h1 => assumption); (case h2 => walk_at "sq"); intro p H2 hh2)
  | ((with_reducible refine' g_listT ?h1 ?h2 ?_); (case h1 => assumption); (case h2 => walk_at "sq"); intro p H2 hh2)
  | ((with_reducible refine' g_tupL ?h1 ?h2 ?_); (case h1 => assumption); (case h2 => walk_at "sq"); intro p H2 hh2)
  | ((with_reducible refine' g_set ?h1 ?h2 ?h3 ?_); (case h1 => assumption); (case h2 => walk_at "pk"); (case h3 => first | rfl | assumption | exact Evl.ixN_nat (by first | omega | (simp only [List.length_cons, List.length_nil]; omega))); intro H2 hh2)
  | ((with_reducible refine' g_kbm ?h1 ?h2 ?_); (case h1 => assumption); (case h2 => walk_at "mem"))
  | ((with_reducible refine' g_kbm0 ?h1 ?h2 ?_); (case h1 => assumption); (case h2 => walk_at "mem"))
  | ((with_reducible refine' g_app ?h1 ?h2 ?h3 ?_); (case h1 => assumption); (case h2 => walk_at "pk"); (case h3 => walk_at "sz"); intro H2 hh2)
  | ((with_reducible refine' g_kapp ?h1 ?h2 ?h3 ?_); (case h1 => assumption); (case h2 => walk_at "pk"); (case h3 => walk_at "sz"); intro H2 hh2)
  | ((with_reducible refine' g_fld ?h1 ?h2 ?h3 ?h4 ?h5 ?_); (case h1 => assumption); (case h2 => walk_at "mem"); (case h3 => assumption); (case h4 => assumption); (case h5 => rfl))
  | ((with_reducible refine' g_sfld ?h1 ?h2 ?h3 ?h4 ?h5 ?_); (case h1 => assumption); (case h2 => walk_at "pk"); (case h3 => assumption); (case h4 => assumption); (case h5 => decide); intro H2 hh2)
  | ((with_reducible refine' g_meth ?h1 ?h2 ?h3 ?_); (case h1 => assumption); (case h2 => walk_at "mem"); (case h3 => rfl))
  | ((with_reducible refine' g_prop ?h1 ?h2 ?_); (case h1 => assumption); (case h2 => walk_at "mem"))
  | ((with_reducible refine' g_make ?h1 ?_); (case h1 => assumption); intro x H2 hh2)
  | ((with_reducible refine' g_cat ?h1 ?h2 ?h3 ?h4 ?_); (case h1 => assumption); (case h2 => walk_at "mem"); (case h3 => walk_at "mem"); (case h4 => walk_at "sz"); intro p H2 hh2)
  | ((with_reducible refine' g_inT ?h1 ?h2 ?h3 ?h4 ?h5 ?_); (case h1 => assumption); (case h2 => walk_at "mem"); (case h3 => rfl); (case h4 => rfl); (case h5 => rfl)))
local macro_rules | `(tactic| walk_at "gs") => `(tactic| repeat first | walk_at "s1" | walk_at "g1")
local macro_rules | `(tactic| walk_at "ite") => `(tactic| first
  | ((with_reducible refine' w_iteT ?h1 ?_); (case h1 => omega))
  | ((with_reducible refine' w_iteF ?h1 ?_); (case h1 => omega))
  | (with_reducible refine w_ite ?_ ?_ <;> intro hq)
  | ((with_reducible refine' w_iteNT ?h1 ?_); (case h1 => omega))
  | ((with_reducible refine' w_iteNF ?h1 ?_); (case h1 => omega))
  | (with_reducible refine w_iteN ?_ ?_ <;> intro hq))
local macro_rules | `(tactic| walk_at "go") => `(tactic| repeat' first | walk_at "s1" | walk_at "g1" | walk_at "ite")
section
variable {P : Program} {w : World} {K : PySem.W.Frag} {mg : Str → Option Value} {base : Heap} {aREG aOPS : Addr}
/-! ### likeness -/
/-- two things of one datum, nested less than n deep, are alike -/
def sp_alike (K : PySem.W.Frag) (n : Nat) : Sp := fun vs H Q _ => ∃ (v1 v2 : V) (d : PyData), vs = [v1, v2] ∧ (match n with
  | 0 => False
  | n + 1 => Dn K [] H n v1 d ∧ Dn K [] H n v2 d) ∧ Q (.bl true) H
theorem alike_step (n : Nat) (T : Txt K mg aREG aOPS) (d : DefAt K mg "_law_alike" s__law_alike) (c__law_alike : C8.Cal P w K mg base n "_law_alike" (sp_alike K n) []) : C8.Cal P w K mg base (n + 1) "_law_alike" (sp_alike K (n + 1)) [] := by
  refine mk d sc__law_alike (fun _ _ _ _ _ _ us hl => match us, hl with | [_, _], _ => rfl) (fun vs H Q E h => ?_) (fun f cdv A outer s H vs Q E hr h => ?_)
  · obtain ⟨v1, v2, d, rfl, _⟩ := h
    rfl
  · obtain ⟨v1, v2, d, rfl, hd, k⟩ := h
    refine ⟨_, (pss_cons (ps_if (PW.pt (pw_or (pt_cmpR op_isN1 (pv 0) pe_non (nomark _)) (pw_or1 (pt_cmpR op_isN1 (pv 1) pe_non (nomark _)))))
    (pss_one (ps_ret (pe_and (pe_cmpR op_isN1 (pv 0) pe_non (nomark _)) (pe_one (pe_cmpR op_isN1 (pv 1) pe_non (nomark _))))))
    pss_nil)
  (pss_cons (ps_if (PW.pt (pw_or (pt_val (pe_callB call_isi (by rfl) T.b_isinstance (by decide +kernel) (pa_cons (pv 0) (pa_cons (pe_bltn (v := .ty "bool") (by rfl) T.b_bool (by decide +kernel) rfl) pa_nil)))) (pw_or1 (pt_val (pe_callB call_isi (by rfl) T.b_isinstance (by decide +kernel) (pa_cons (pv 1) (pa_cons (pe_bltn (v := .ty "bool") (by rfl) T.b_bool (by decide +kernel) rfl) pa_nil)))))))
    (pss_one (ps_ret (pe_and (pe_callB call_isi (by rfl) T.b_isinstance (by decide +kernel) (pa_cons (pv 0) (pa_cons (pe_bltn (v := .ty "bool") (by rfl) T.b_bool (by decide +kernel) rfl) pa_nil))) (pe_and (pe_callB call_isi (by rfl) T.b_isinstance (by decide +kernel) (pa_cons (pv 1) (pa_cons (pe_bltn (v := .ty "bool") (by rfl) T.b_bool (by decide +kernel) rfl) pa_nil))) (pe_one (pe_cmpR op_eq (pv 0) (pv 1) (nomark _)))))))
    pss_nil)
  (pss_cons (ps_if (pt_val (pe_callB call_isi (by rfl) T.b_isinstance (by decide +kernel) (pa_cons (pv 0) (pa_cons (pe_bltn (v := .ty "int") (by rfl) T.b_int (by decide +kernel) rfl) pa_nil))))
    (pss_one (ps_ret (pe_and (pe_callB call_isi (by rfl) T.b_isinstance (by decide +kernel) (pa_cons (pv 1) (pa_cons (pe_bltn (v := .ty "int") (by rfl) T.b_int (by decide +kernel) rfl) pa_nil))) (pe_one (pe_cmpR op_eq (pv 0) (pv 1) (nomark _))))))
    pss_nil)
  (pss_cons (ps_if (pt_val (pe_callB call_isi (by rfl) T.b_isinstance (by decide +kernel) (pa_cons (pv 0) (pa_cons (pe_bltn (v := .ty "str") (by rfl) T.b_str (by decide +kernel) rfl) pa_nil))))
    (pss_one (ps_ret (pe_and (pe_callB call_isi (by rfl) T.b_isinstance (by decide +kernel) (pa_cons (pv 1) (pa_cons (pe_bltn (v := .ty "str") (by rfl) T.b_str (by decide +kernel) rfl) pa_nil))) (pe_one (pe_cmpR op_eq (pv 0) (pv 1) (nomark _))))))
    pss_nil)
  (pss_cons (ps_if (pt_val (pe_callB call_isi (by rfl) T.b_isinstance (by decide +kernel) (pa_cons (pv 0) (pa_cons (pe_bltn (v := .ty "list") (by rfl) T.b_list (by decide +kernel) rfl) pa_nil))))
    (pss_one (ps_if (pt_not (pt_val (pe_callB call_isi (by rfl) T.b_isinstance (by decide +kernel) (pa_cons (pv 1) (pa_cons (pe_bltn (v := .ty "list") (by rfl) T.b_list (by decide +kernel) rfl) pa_nil)))))
        (pss_one (ps_ret pe_bl))
        pss_nil))
    (pss_one (ps_if (PW.pt (pw_or (pt_not (pt_val (pe_callB call_isi (by rfl) T.b_isinstance (by decide +kernel) (pa_cons (pv 0) (pa_cons (pe_bltn (v := .ty "tuple") (by rfl) T.b_tuple (by decide +kernel) rfl) pa_nil))))) (pw_or1 (pt_not (pt_val (pe_callB call_isi (by rfl) T.b_isinstance (by decide +kernel) (pa_cons (pv 1) (pa_cons (pe_bltn (v := .ty "tuple") (by rfl) T.b_tuple (by decide +kernel) rfl) pa_nil))))))))
        (pss_one (ps_ret pe_bl))
        pss_nil)))
  (pss_cons (ps_if (pt_cmpR op_ne (pe_callB Wk.b_len (by rfl) T.b_len (by decide +kernel) (pa_cons (pv 0) pa_nil)) (pe_callB Wk.b_len (by rfl) T.b_len (by decide +kernel) (pa_cons (pv 1) pa_nil)) (nomark _))
    (pss_one (ps_ret pe_bl))
    pss_nil)
  (pss_cons (ps_for PassesOwn.never rfl (pi_range1 rfl T.b_range (pa_cons (pe_callB Wk.b_len (by rfl) T.b_len (by decide +kernel) (pa_cons (pv 0) pa_nil)) pa_nil)) (pg_name (i := 2) sc__law_alike.nd rfl (Or.inl rfl))
    (pss_one (ps_if (pt_not (pt_val (C8.pe_c c__law_alike hr (by first | decide | omega) rfl (pa_cons (pe_ix ix_seq (pv 0) (pv 2) (fun _ _ => rfl)) (pa_cons (pe_ix ix_seq (pv 1) (pv 2) (fun _ _ => rfl)) pa_nil)))))
        (pss_one (ps_ret pe_bl))
        pss_nil)))
  (pss_one (ps_ret pe_bl))))))))), ?_⟩
    have scal : ∀ {v1 v2 d}, Sc v1 d → Sc v2 d → v1 = v2 := fun h1 h2 => by cases h1 <;> cases h2 <;> rfl
    have hd' : Sc v1 d ∧ Sc v2 d ∨ ∃ m a1 a2 xs ys ds, n = m + 1 ∧ v1 = .ref a1 ∧ v2 = .ref a2 ∧ xs.length ≤ 100000 ∧ Paired (Dn K [] H m) xs ds ∧ Paired (Dn K [] H m) ys ds ∧ ((SqL K H a1 xs ∧ SqL K H a2 ys) ∨ (SqT K H a1 xs ∧ SqT K H a2 ys)) := by
      obtain ⟨h1, h2⟩ := hd
      cases n with
      | zero => exact .inl ⟨h1, h2⟩
      | succ m =>
        rcases h1 with h1 | ⟨a, xs, ds, e1, e2, _, hq, hl, p⟩ | ⟨a, xs, ds, e1, e2, _, hq, hl, p⟩
        · rcases h2 with h2 | ⟨a', xs', ds', e1', e2', _, hq', hl', p'⟩ | ⟨a', xs', ds', e1', e2', _, hq', hl', p'⟩
          · exact .inl ⟨h1, h2⟩
          · subst e2'; cases h1
          · subst e2'; cases h1
        · subst e2
          rcases h2 with h2 | ⟨a', xs', ds', e1', e2', _, hq', hl', p'⟩ | ⟨a', xs', ds', e1', e2', _, hq', hl', p'⟩
          · cases h2
          · cases e2'
            exact .inr ⟨m, a, a', xs, xs', ds, rfl, e1, e1', hl, p, p', .inl ⟨hq, hq'⟩⟩
          · cases e2'
        · subst e2
          rcases h2 with h2 | ⟨a', xs', ds', e1', e2', _, hq', hl', p'⟩ | ⟨a', xs', ds', e1', e2', _, hq', hl', p'⟩
          · cases h2
          · cases e2'
          · cases e2'
            exact .inr ⟨m, a, a', xs, xs', ds, rfl, e1, e1', hl, p, p', .inr ⟨hq, hq'⟩⟩
    clear hd
    rcases hd' with ⟨h1, h2⟩ | ⟨m, a1, a2, xs, ys, ds, rfl, rfl, rfl, hl, p1, p2, hq⟩
    · obtain rfl := scal h1 h2
      clear h2 scal
      cases h1 <;> walk_at "s" <;> first | exact k | (simp only [decide_true]; exact k)
    · have e1 := p1.length
      have el : ys.length = xs.length := by rw [p1.length, p2.length]
      have hx : SqL K H a1 xs ∨ SqT K H a1 xs := hq.elim (fun z => .inl z.1) fun z => .inr z.1
      have hy : SqL K H a2 ys ∨ SqT K H a2 ys := hq.elim (fun z => .inl z.2) fun z => .inr z.2
      have rest : ∀ (lp : TS) (D : Ends), True := fun _ _ => trivial
      rcases hq with ⟨q1, q2⟩ | ⟨q1, q2⟩
      all_goals
        walk_at "s"
        refine c_lenA hx ?_
        walk_at "s"
        refine c_lenA hy ?_
        rw [el]
        walk_at "s"
        refine c_lenA hx ?_
        walk_at "s"
        refine l_range rfl (by omega) (fun i σ H2 => H2 = H ∧ ∃ v, σ = [some (.ref a1), some (.ref a2), v]) ⟨rfl, none, rfl⟩ ?_ ?_
        · rintro i σ H2 hi ⟨rfl, v, rfl⟩
          obtain ⟨d0, hd0, z1⟩ := paired_at p1 (List.getElem?_eq_getElem hi)
          obtain ⟨d1, hd1, z2⟩ := paired_at p2 (List.getElem?_eq_getElem (by omega : i < ys.length))
          rw [hd0] at hd1
          cases hd1
          walk_at "s"
          refine w_ixAny hx (atI_nat (List.getElem?_eq_getElem hi)) ?_
          walk_at "s"
          refine w_ixAny hy (atI_nat (List.getElem?_eq_getElem (by omega : i < ys.length))) ?_
          walk_at "s"
          refine ⟨_, _, d0, rfl, ⟨z1, z2⟩, ?_⟩
          walk_at "s"
          exact ⟨rfl, _, rfl⟩
        · rintro σ H2 ⟨rfl, v, rfl⟩
          walk_at "s"
          exact k
theorem cal_false {x : Str} {st : Stmt} {k : Nat} {sp : Sp} {ps : List Str} (d : DefAt K mg x st)
    (hb : ∀ (kV doc pm : Value) (an : Option Addr) (cdv ct : Value) (us : List Value), us.length = ps.length → bindArgs (PySem.W.fnOf x x (defArgs st) (defBody st) (defScope st) .none kV doc pm an cdv ct) ⟨us, []⟩ = pure (ps.zip us))
    (h : ∀ vs H Q E, sp vs H Q E → False) : C8.Cal P w K mg base k x sp [] := by
  obtain ⟨f, fd, F, hm⟩ := d
  exact ⟨f, fd, ps, [], ⟨fun vs H Q E z => (h _ _ _ _ z).elim, fun A outer s H args us vs Q E _ _ _ _ z => (h _ _ _ _ z).elim⟩, hm, F.kp, F.bindsN hb, .nil⟩
theorem c_alike (T : Txt K mg aREG aOPS) (d : DefAt K mg "_law_alike" s__law_alike) : ∀ n : Nat, C8.Cal P w K mg base n "_law_alike" (sp_alike K n) []
  | 0 => cal_false (ps := ["one", "two"]) d (fun _ _ _ _ _ _ us hl => match us, hl with | [_, _], _ => rfl) fun vs H Q E ⟨_, _, _, _, z, _⟩ => z
  | n + 1 => alike_step n T d (c_alike T d n)
theorem u_alike {n : Nat} {v1 v2 : V} {d : PyData} {H : Hp} {Q : VK} {E : XK} (h1 : Dn K [] H n v1 d) (h2 : Dn K [] H n v2 d) (q : Q (.bl true) H) : sp_alike K (n + 1) [v1, v2] H Q E := ⟨v1, v2, d, rfl, ⟨h1, h2⟩, q⟩
end
end K24
set_option Elab.async false
set_option linter.all false
set_option maxRecDepth 100000
set_option maxHeartbeats 4000000
namespace K24
open PySem PySem.Spec PyProof.Rows L2 Wk
local macro_rules | `(tactic| walk_at "u1") => `(tactic| fail "no more")
local macro_rules | `(tactic| walk_at "pos") => `(tactic| first | assumption | omega | decide | (simp only [Int.ofNat_eq_natCast] at *; omega))
local macro_rules | `(tactic| walk_at "sz") => `(tactic| first
  | (simp only [List.length_cons, List.length_nil]; decide)
  | exact Evl.sz_of (by omega)
  | exact Evl.sz_lt (by omega)
  | exact Evl.sz_of (by simp only [List.length_map, List.length_append, List.length_cons, List.length_nil, List.length_replicate]; omega)
  | exact Evl.sz_lt (by simp only [List.length_map, List.length_append, List.length_cons, List.length_nil, List.length_replicate]; omega))
local macro_rules | `(tactic| walk_at "cond") => `(tactic| first
  | exact Or.inr ⟨by decide, by decide⟩
  | (show (0 : Int) < _; first | decide | assumption | omega)
  | exact Or.inl ⟨by omega, by omega⟩
  | exact Or.inr ⟨by omega, by omega⟩
  | exact ⟨by decide, by decide, by decide⟩
  | exact log2_lt (by omega) (by omega)
  | exact ⟨by omega, by omega⟩)
local macro_rules | `(tactic| walk_at "ty") => `(tactic| first
  | exact ty_int | exact ty_bl | exact ty_str | exact ty_non
  | exact ty_L (by assumption) | exact ty_T (by assumption)
  | exact ty_L (SqL.of (by assumption)) | exact ty_T (SqT.of (by assumption)))
local macro_rules | `(tactic| walk_at "kit") => `(tactic| first
  | exact k_ii | exact k_ib | exact k_is | exact k_il | exact k_it
  | exact k_bb | exact k_bi | exact k_bs | exact k_bl | exact k_bt
  | exact k_ss | exact k_sb | exact k_si | exact k_sl | exact k_st
  | exact k_ll | exact k_lb | exact k_li | exact k_ls | exact k_lt
  | exact k_tt | exact k_tb | exact k_ti | exact k_ts | exact k_tl
  | exact k_nn | exact k_ni | exact k_ns | exact k_nl | exact k_nt)
local macro_rules | `(tactic| walk_at "s1") => `(tactic| first
  | with_reducible refine w_seq ?_
  | with_reducible refine w_set ?_
  | with_reducible refine w_op ?_
  | ((with_reducible refine' w_var ?h1 ?_); (case h1 => rfl))
  | with_reducible refine w_c ?_
  | with_reducible refine w_cb ?_
  | with_reducible refine w_cons ?_
  | with_reducible refine w_nil ?_
  | with_reducible refine w_I0 ?_
  | ((with_reducible refine' w_I ?c1 ?_); case c1 => walk_at "cond")
  | with_reducible refine w_ret ?_
  | with_reducible refine w_next ?_
  | with_reducible refine w_ifS ?_
  | with_reducible refine w_test ?_
  | with_reducible refine w_tB ?_
  | with_reducible refine w_k ?_
  | with_reducible refine w_eqI ?_
  | with_reducible refine w_neI ?_
  | with_reducible refine w_eqS ?_
  | with_reducible refine w_neS ?_
  | with_reducible refine w_and ?_
  | with_reducible refine w_or ?_
  | with_reducible refine w_not ?_
  | with_reducible refine w_andV ?_
  | with_reducible refine w_orV ?_
  | with_reducible refine w_notV ?_
  | with_reducible refine w_ifE ?_
  | with_reducible refine w_true ?_
  | with_reducible refine w_false ?_
  | with_reducible refine w_ntrue ?_
  | with_reducible refine w_nfalse ?_
  | with_reducible refine w_call ?_
  | with_reducible refine c_int ?_
  | with_reducible refine c_abs ?_
  | with_reducible refine c_max ?_
  | with_reducible refine c_min ?_
  | with_reducible refine w_drop ?_
  | with_reducible refine w_sfld ?_
  | with_reducible refine w_meth ?_
  | with_reducible refine w_make ?_
  | with_reducible refine w_prop ?_
  | with_reducible refine w_callK ?_
  | with_reducible refine w_callN ?_
  | with_reducible refine w_star ?_
  | with_reducible refine w_gcons ?_
  | with_reducible refine w_gname ?_
  | with_reducible refine w_gnil ?_
  | with_reducible refine w_retN ?_
  | with_reducible refine w_tup ?_
  | with_reducible refine w_lst ?_
  | with_reducible refine w_fld ?_
  | with_reducible refine w_bm ?_
  | with_reducible refine w_bm0 ?_
  | with_reducible refine w_forL ?_
  | with_reducible refine w_forT ?_
  | with_reducible refine w_forS ?_
  | with_reducible refine w_forR ?_
  | with_reducible refine w_lcR ?_
  | with_reducible refine w_lcL ?_
  | with_reducible refine w_lcT ?_
  | with_reducible refine w_isN ?_
  | with_reducible refine w_notN ?_
  | with_reducible refine w_asg ?_
  | with_reducible refine w_gsub ?_
  | ((with_reducible refine' w_aug ?h1 ?_); (case h1 => rfl))
  | with_reducible refine w_augS ?_
  | with_reducible refine w_ipI ?_
  | with_reducible refine w_un ?_
  | with_reducible refine w_U ?_
  | ((with_reducible refine' w_iteF ?f1 ?_); case f1 => (first | (intro h; cases h; done) | decide))
  | ((with_reducible refine' w_iteT ?f1 ?_); case f1 => rfl)
  | ((with_reducible refine' w_iteNF ?f1 ?_); case f1 => rfl)
  | ((with_reducible refine' w_iteNT ?f1 ?_); case f1 => (first | (intro h; cases h; done) | decide))
  | ((with_reducible refine' c_isi ?t1 ?k1 ?_); (case t1 => walk_at "ty"); (case k1 => walk_at "kit"))
  | ((with_reducible refine' w_eq ?e1 ?_); case e1 => rfl)
  | ((with_reducible refine' w_ne ?e1 ?_); case e1 => rfl)
  | walk_at "u1")
local macro_rules | `(tactic| walk_at "s") => `(tactic| repeat walk_at "s1")
local macro_rules | `(tactic| walk_at "mem") => `(tactic| first | with_reducible exact List.mem_cons_self .. | ((with_reducible refine' List.mem_cons_of_mem _ ?q); (case q => walk_at "mem")) | assumption | ((with_reducible refine' List.mem_append_right _ ?q); (case q => walk_at "mem")) | (exact List.mem_append_left _ (by assumption)))
local macro_rules | `(tactic| walk_at "pk") => `(tactic| first | with_reducible exact Pk.here | ((with_reducible refine' Pk.there ?q); (case q => walk_at "pk")) | ((with_reducible refine' Pk.app ?q); (case q => walk_at "pk")))
local macro_rules | `(tactic| walk_at "pkb") => `(tactic| first | with_reducible exact PkB.here | ((with_reducible refine' PkB.there ?q); (case q => walk_at "pkb")) | ((with_reducible refine' PkB.app ?q); (case q => walk_at "pkb")))
local macro_rules | `(tactic| walk_at "spl") => `(tactic| first | with_reducible exact Spl.nil | ((with_reducible refine' Spl.cons ?h ?t); (case h => walk_at "pk"); (case t => walk_at "spl")) | ((with_reducible refine' Spl.blk ?h ?t); (case h => walk_at "pkb"); (case t => walk_at "spl")))
local macro_rules | `(tactic| walk_at "sbx") => `(tactic| first | with_reducible exact Sb.refl | with_reducible exact Sb.nil | with_reducible exact Sb.left | ((with_reducible refine' Sb.cons ?h ?t); (case h => walk_at "pk"); (case t => walk_at "sbx")) | ((with_reducible refine' Sb.blk ?h ?t); (case h => walk_at "pkb"); (case t => walk_at "sbx")) | ((with_reducible refine' Sb.drop ?q); (case q => walk_at "sbx")) | ((with_reducible refine' Sb.right ?q); (case q => walk_at "sbx")))
local macro_rules | `(tactic| walk_at "hd") => `(tactic| first | assumption | exact Hd.sb (by assumption) (by walk_at "sbx"))
local macro_rules | `(tactic| walk_at "sq") => `(tactic| first
  | assumption
  | exact Hd.sqL (by assumption) (by walk_at "mem")
  | exact Hd.sqT (by assumption) (by walk_at "mem")
  | exact Hd.sqF (by assumption) (by walk_at "mem")
  | (refine .inl ?_; walk_at "sq")
  | (refine .inr ?_; walk_at "sq"))
local macro_rules | `(tactic| walk_at "at") => `(tactic| first | rfl | assumption | exact atI_nat (by assumption))
local macro_rules | `(tactic| walk_at "dn1") => `(tactic| first
  | exact Dn.int | exact Dn.str | exact Dn.non | exact Dn.bl | assumption
  | ((refine' Dn.tp ?a1 ?m1 ?l1 ?p1); (case a1 => assumption); (case m1 => walk_at "mem"); (case l1 => (simp only [List.length_cons, List.length_nil]; omega)); (case p1 => walk_at "dns"))
  | ((refine' Dn.lt ?a1 ?m1 ?l1 ?p1); (case a1 => assumption); (case m1 => walk_at "mem"); (case l1 => (simp only [List.length_cons, List.length_nil]; omega)); (case p1 => walk_at "dns")))
local macro_rules | `(tactic| walk_at "dns") => `(tactic| first | exact Paired.nil | exact Dn.ints | ((refine' Paired.cons ?a1 ?b1); (case a1 => walk_at "dn1"); (case b1 => walk_at "dns")))
local macro_rules | `(tactic| walk_at "g1") => `(tactic| first
  | ((with_reducible refine' g_ixI ?h1 ?h2 ?h3 ?_); (case h1 => assumption); (case h2 => walk_at "mem"); (case h3 => omega); intro z hz)
  | ((with_reducible refine' g_ixIT ?h1 ?h2 ?h3 ?_); (case h1 => assumption); (case h2 => walk_at "mem"); (case h3 => omega); intro z hz)
  | ((with_reducible refine' g_setI ?h1 ?h2 ?h3 ?_); (case h1 => assumption); (case h2 => walk_at "pk"); (case h3 => omega); intro H2 hh2)
  | ((with_reducible refine' w_ixL ?h1 ?h2 ?_); (case h1 => walk_at "sq"); (case h2 => walk_at "at"))
  | ((with_reducible refine' w_ixT ?h1 ?h2 ?_); (case h1 => walk_at "sq"); (case h2 => walk_at "at"))
  | ((with_reducible refine' w_ixAny ?h1 ?h2 ?_); (case h1 => walk_at "sq"); (case h2 => walk_at "at"))
  | ((with_reducible refine' c_lenA ?h1 ?_); (case h1 => walk_at "sq"))
  | ((with_reducible refine' c_isi ?t1 ?k1 ?_); (case t1 => first | exact ty_T (by walk_at "sq") | exact ty_L (by walk_at "sq")); (case k1 => walk_at "kit"))
  | ((with_reducible refine' g_lst ?h1 ?h2 ?_); (case h1 => assumption); (case h2 => walk_at "sz"); intro p H2 hh2)
  | ((with_reducible refine' g_tup ?h1 ?h2 ?_); (case h1 => assumption); (case h2 => walk_at "sz"); intro p H2 hh2)
  | ((with_reducible refine' g_dict ?h1 ?_); (case h1 => assumption); intro p H2 hh2)
  | ((with_reducible refine' g_listL ?h1 ?h2 ?_); (case h1 => assumption); (case h2 => walk_at "sq"); intro p H2 hh2)
  | ((with_reducible refine' g_listT ?h1 ?h2 ?_); (case h1 => assumption); (case h2 => walk_at "sq"); intro p H2 hh2)
  | ((with_reducible refine' g_tupL ?h1 ?h2 ?_); (case h1 => assumption); (case h2 => walk_at "sq"); intro p H2 hh2)
  | ((with_reducible refine' g_set ?h1 ?h2 ?h3 ?_); (case h1 => assumption); (case h2 => walk_at "pk"); (case h3 => first | rfl | assumption | exact Evl.ixN_nat (by first | omega | (simp only [List.length_cons, List.length_nil]; omega))); intro H2 hh2)
  | ((with_reducible refine' g_kbm ?h1 ?h2 ?_); (case h1 => assumption); (case h2 => walk_at "mem"))
  | ((with_reducible refine' g_kbm0 ?h1 ?h2 ?_); (case h1 => assumption); (case h2 => walk_at "mem"))
  | ((with_reducible refine' g_app ?h1 ?h2 ?h3 ?_); (case h1 => assumption); (case h2 => walk_at "pk"); (case h3 => walk_at "sz"); intro H2 hh2)
  | ((with_reducible refine' g_kapp ?h1 ?h2 ?h3 ?_); (case h1 => assumption); (case h2 => walk_at "pk"); (case h3 => walk_at "sz"); intro H2 hh2)
  | ((with_reducible refine' g_fld ?h1 ?h2 ?h3 ?h4 ?h5 ?_); (case h1 => assumption); (case h2 => walk_at "mem"); (case h3 => assumption); (case h4 => assumption); (case h5 => rfl))
  | ((with_reducible refine' g_sfld ?h1 ?h2 ?h3 ?h4 ?h5 ?_); (case h1 => assumption); (case h2 => walk_at "pk"); (case h3 => assumption); (case h4 => assumption); (case h5 => decide); intro H2 hh2)
  | ((with_reducible refine' g_meth ?h1 ?h2 ?h3 ?_); (case h1 => assumption); (case h2 => walk_at "mem"); (case h3 => rfl))
  | ((with_reducible refine' g_prop ?h1 ?h2 ?_); (case h1 => assumption); (case h2 => walk_at "mem"))
  | ((with_reducible refine' g_make ?h1 ?_); (case h1 => assumption); intro x H2 hh2)
  | ((with_reducible refine' g_cat ?h1 ?h2 ?h3 ?h4 ?_); (case h1 => assumption); (case h2 => walk_at "mem"); (case h3 => walk_at "mem"); (case h4 => walk_at "sz"); intro p H2 hh2)
  | ((with_reducible refine' g_inT ?h1 ?h2 ?h3 ?h4 ?h5 ?_); (case h1 => assumption); (case h2 => walk_at "mem"); (case h3 => rfl); (case h4 => rfl); (case h5 => rfl)))
local macro_rules | `(tactic| walk_at "gs") => `(tactic| repeat first | walk_at "s1" | walk_at "g1")
local macro_rules | `(tactic| walk_at "ite") => `(tactic| first
  | ((with_reducible refine' w_iteT ?h1 ?_); (case h1 => omega))
  | ((with_reducible refine' w_iteF ?h1 ?_); (case h1 => omega))
  | (with_reducible refine w_ite ?_ ?_ <;> intro hq)
  | ((with_reducible refine' w_iteNT ?h1 ?_); (case h1 => omega))
  | ((with_reducible refine' w_iteNF ?h1 ?_); (case h1 => omega))
  | (with_reducible refine w_iteN ?_ ?_ <;> intro hq))
local macro_rules | `(tactic| walk_at "go") => `(tactic| repeat' first | walk_at "s1" | walk_at "g1" | walk_at "ite")
section
variable {P : Program} {w : World} {K : PySem.W.Frag} {mg : Str → Option Value} {base : Heap} {aREG aOPS : Addr}
/-! ### copies -/
def Trk (S : List Addr) (H : Hp) : Prop := ∀ a ∈ S, ∃ o, H a = some o
theorem Trk.upt {S : List Addr} {H H' : Hp} (t : Trk S H) (u : Upt [] H H') : Trk S H' := fun a h => by
  obtain ⟨o, e⟩ := t a h
  exact ⟨o, u.at0 e⟩
/-- a datum nested less than n deep is copied: the copy's lists and tuples are new -/
def sp_copy (K : PySem.W.Frag) (n : Nat) : Sp := fun vs H Q _ => ∃ (v : V) (d : PyData), vs = [v] ∧ (match n with
  | 0 => False
  | n + 1 => Dn K [] H n v d ∧ ∀ v' H', Upt [] H H' → (∀ S, Trk S H → Dn K S H' n v' d) → Q v' H')
theorem take_succ' {α : Type} {xs : List α} {i : Nat} {x : α} (h : xs[i]? = some x) : xs.take (i + 1) = xs.take i ++ [x] := by
  rw [List.take_succ, h]; rfl
theorem Paired.snoc {α β : Type} {F : α → β → Prop} : ∀ {xs : List α} {ys : List β} {x : α} {y : β}, Paired F xs ys → F x y → Paired F (xs ++ [x]) (ys ++ [y])
  | _, _, _, _, .nil, h => .cons h .nil
  | _, _, _, _, .cons r t, h => .cons r (Paired.snoc t h)
theorem copy_step (n : Nat) (T : Txt K mg aREG aOPS) (d : DefAt K mg "_law_copy" s__law_copy) (c__law_copy : C8.Cal P w K mg base n "_law_copy" (sp_copy K n) []) : C8.Cal P w K mg base (n + 1) "_law_copy" (sp_copy K (n + 1)) [] := by
  refine mk d sc__law_copy (fun _ _ _ _ _ _ us hl => match us, hl with | [_], _ => rfl) (fun vs H Q E h => ?_) (fun f cdv A outer s H vs Q E hr h => ?_)
  · obtain ⟨v1, d, rfl, _⟩ := h
    rfl
  · obtain ⟨v, d, rfl, hd, k⟩ := h
    refine ⟨_, (pss_cons (ps_if (pt_val (pe_callB call_isi (by rfl) T.b_isinstance (by decide +kernel) (pa_cons (pv 0) (pa_cons (pe_bltn (v := .ty "list") (by rfl) T.b_list (by decide +kernel) rfl) pa_nil))))
    (pss_one (ps_ret (pe_lc (own := [("x", 1)]) rfl sc__law_copy.nd (pi_list (pv 0)) (blkOk_by (own := [("x", 1)]) (N := nm__law_copy) (sc := defScope s__law_copy) (by decide +kernel)) (fun _ _ _ _ _ => (pg_name (i := 1) sc__law_copy.nd rfl (Or.inl rfl))) (fun _ _ _ _ _ => pts_nil) (fun _ _ _ _ _ => (C8.pe_c c__law_copy hr (by first | decide | omega) rfl (pa_cons (pv 1) pa_nil))))))
    pss_nil)
  (pss_cons (ps_if (pt_val (pe_callB call_isi (by rfl) T.b_isinstance (by decide +kernel) (pa_cons (pv 0) (pa_cons (pe_bltn (v := .ty "tuple") (by rfl) T.b_tuple (by decide +kernel) rfl) pa_nil))))
    (pss_one (ps_ret (pe_callTy Wk.b_tuple (by rfl) T.b_tuple (by decide +kernel) (pa_cons (pe_lc (own := [("x", 1)]) rfl sc__law_copy.nd (pi_tup (pv 0)) (blkOk_by (own := [("x", 1)]) (N := nm__law_copy) (sc := defScope s__law_copy) (by decide +kernel)) (fun _ _ _ _ _ => (pg_name (i := 1) sc__law_copy.nd rfl (Or.inl rfl))) (fun _ _ _ _ _ => pts_nil) (fun _ _ _ _ _ => (C8.pe_c c__law_copy hr (by first | decide | omega) rfl (pa_cons (pv 1) pa_nil)))) pa_nil))))
    pss_nil)
  (pss_one (ps_ret (pv 0))))), ?_⟩
    have hd' : Sc v d ∨ ∃ m a xs ds, n = m + 1 ∧ v = .ref a ∧ xs.length ≤ 100000 ∧ Paired (Dn K [] H m) xs ds ∧ ((SqL K H a xs ∧ d = .list ds) ∨ (SqT K H a xs ∧ d = .tuple ds)) := by
      cases n with
      | zero => exact .inl hd
      | succ m =>
        rcases hd with h1 | ⟨a, xs, ds, e1, e2, _, hq, hl, p⟩ | ⟨a, xs, ds, e1, e2, _, hq, hl, p⟩
        · exact .inl h1
        · exact .inr ⟨m, a, xs, ds, rfl, e1, hl, p, .inl ⟨hq, e2⟩⟩
        · exact .inr ⟨m, a, xs, ds, rfl, e1, hl, p, .inr ⟨hq, e2⟩⟩
    clear hd
    rcases hd' with h1 | ⟨m, a, xs, ds, rfl, rfl, hl, p, hq⟩
    · have k' := k v H (Upt.refl H) fun S _ => Dn.sc h1
      cases h1 <;> walk_at "s" <;> exact k'
    · -- what holds behind i items
      have el := p.length
      have turn : ∀ (i : Nat) (x : V) (D : Addr) (H2 : Hp), xs[i]? = some x → (H D = none ∧ Upt [] H H2 ∧ ∃ acc, H2 D = some (.lst acc) ∧ acc.length = i ∧ ∀ S, Trk S H → Paired (Dn K (D :: S) H2 m) acc (ds.take i)) →
          ∃ d0, ds[i]? = some d0 ∧ Dn K [] H2 m x d0 ∧ ∀ v' H4, Upt [] H2 H4 → (∀ S, Trk S H2 → Dn K S H4 m v' d0) → KApp D (fun H2 => H D = none ∧ Upt [] H H2 ∧ ∃ acc, H2 D = some (.lst acc) ∧ acc.length = i + 1 ∧ ∀ S, Trk S H → Paired (Dn K (D :: S) H2 m) acc (ds.take (i + 1))) v' H4 := by
        rintro i x D H2 hi ⟨hD, u, acc, hacc, hn, hp⟩
        obtain ⟨d0, hd0, z⟩ := paired_at p hi
        have hil := (List.getElem?_eq_some_iff.mp hi).1
        refine ⟨d0, hd0, Dn.upt u (by simp) z, fun v' H4 u4 h4 => ?_⟩
        refine w_kapp (u4.at0 hacc) (Evl.sz_lt (by omega)) fun H5 g5 => ⟨hD, fun b o _ ho => ?_, acc ++ [v'], g5.at_, by simp [hn], fun S hS => ?_⟩
        · exact g5.keep.at1 (fun z => by subst z; rw [hD] at ho; cases ho) (u4.at0 (u.at0 ho))
        · rw [take_succ' hd0]
          have u5 : Upt [D] H4 H5 := g5.keep
          refine Paired.snoc (Paired.mapP (hp S hS) fun x y q => Dn.upt u5 (by simp) (Dn.upt u4 (by simp) q)) ?_
          refine Dn.upt u5 (by simp) (h4 (D :: S) fun b hb => ?_)
          rcases List.mem_cons.mp hb with z | z
          · subst z; exact ⟨_, hacc⟩
          · exact hS.upt u b z
      rcases hq with ⟨hx, rfl⟩ | ⟨hx, rfl⟩
      · walk_at "s"
        refine lc_L hx (fun i D H2 => H D = none ∧ Upt [] H H2 ∧ ∃ acc, H2 D = some (.lst acc) ∧ acc.length = i ∧ ∀ S, Trk S H → Paired (Dn K (D :: S) H2 m) acc (ds.take i)) (fun D H1 n1 => ⟨n1.no, n1.keep, [], n1.at_, rfl, fun _ _ => .nil⟩) (fun i D H2 _ ⟨_, u, _⟩ => hx.upt u) (fun i x D H2 hi hp => ?_) (fun D H2 hp => ?_)
        · obtain ⟨d0, hd0, z, kk⟩ := turn i x D H2 hi hp
          walk_at "s"
          exact ⟨x, d0, rfl, z, kk⟩
        · obtain ⟨hD, u, acc, hacc, hn, hpp⟩ := hp
          refine k (.ref D) H2 u fun S hS => ?_
          have q := hpp S hS
          rw [el, List.take_length] at q
          exact Dn.lst (SqL.of hacc) (fun z => by obtain ⟨o, e⟩ := hS D z; rw [hD] at e; cases e) (by omega) (Paired.mapP q fun x y q => Dn.weak (fun b hb => List.mem_cons_of_mem _ hb) q)
      · walk_at "s"
        refine lc_T hx (fun i D H2 => H D = none ∧ Upt [] H H2 ∧ ∃ acc, H2 D = some (.lst acc) ∧ acc.length = i ∧ ∀ S, Trk S H → Paired (Dn K (D :: S) H2 m) acc (ds.take i)) (fun D H1 n1 => ⟨n1.no, n1.keep, [], n1.at_, rfl, fun _ _ => .nil⟩) (fun i D H2 _ ⟨_, u, _⟩ => hx.upt u) (fun i x D H2 hi hp => ?_) (fun D H2 hp => ?_)
        · obtain ⟨d0, hd0, z, kk⟩ := turn i x D H2 hi hp
          walk_at "s"
          exact ⟨x, d0, rfl, z, kk⟩
        · obtain ⟨hD, u, acc, hacc, hn, hpp⟩ := hp
          walk_at "s"
          refine c_tupL (SqL.of hacc) fun t H3 n3 => ?_
          refine k (.ref t) H3 (u.trans n3.keep) fun S hS => ?_
          have q := hpp S hS
          rw [el, List.take_length] at q
          exact Dn.tup (SqT.of n3.at_) (fun z => by obtain ⟨o, e⟩ := hS.upt u t z; rw [n3.no] at e; cases e) (by omega) (Paired.mapP q fun x y q => Dn.upt n3.keep (by simp) (Dn.weak (fun b hb => List.mem_cons_of_mem _ hb) q))
theorem c_copy (T : Txt K mg aREG aOPS) (d : DefAt K mg "_law_copy" s__law_copy) : ∀ n : Nat, C8.Cal P w K mg base n "_law_copy" (sp_copy K n) []
  | 0 => cal_false (ps := ["value"]) d (fun _ _ _ _ _ _ us hl => match us, hl with | [_], _ => rfl) fun vs H Q E ⟨_, _, _, z⟩ => z
  | n + 1 => copy_step n T d (c_copy T d n)
theorem u_copy {n : Nat} {v : V} {d : PyData} {H : Hp} {Q : VK} {E : XK} (h1 : Dn K [] H n v d) (q : ∀ v' H', Upt [] H H' → (∀ S, Trk S H → Dn K S H' n v' d) → Q v' H') : sp_copy K (n + 1) [v] H Q E := ⟨v, d, rfl, h1, q⟩
end
end K24
set_option Elab.async false
set_option linter.all false
set_option maxRecDepth 100000
set_option maxHeartbeats 4000000
namespace K24
open PySem PySem.Spec PyProof.Rows L2 Wk
local macro_rules | `(tactic| walk_at "u1") => `(tactic| fail "no more")
local macro_rules | `(tactic| walk_at "pos") => `(tactic| first | assumption | omega | decide | (simp only [Int.ofNat_eq_natCast] at *; omega))
local macro_rules | `(tactic| walk_at "sz") => `(tactic| first
  | (simp only [List.length_cons, List.length_nil]; decide)
  | exact Evl.sz_of (by omega)
  | exact Evl.sz_lt (by omega)
  | exact Evl.sz_of (by simp only [List.length_map, List.length_append, List.length_cons, List.length_nil, List.length_replicate]; omega)
  | exact Evl.sz_lt (by simp only [List.length_map, List.length_append, List.length_cons, List.length_nil, List.length_replicate]; omega))
local macro_rules | `(tactic| walk_at "cond") => `(tactic| first
  | exact Or.inr ⟨by decide, by decide⟩
  | (show (0 : Int) < _; first | decide | assumption | omega)
  | exact Or.inl ⟨by omega, by omega⟩
  | exact Or.inr ⟨by omega, by omega⟩
  | exact ⟨by decide, by decide, by decide⟩
  | exact log2_lt (by omega) (by omega)
  | exact ⟨by omega, by omega⟩)
local macro_rules | `(tactic| walk_at "ty") => `(tactic| first
  | exact ty_int | exact ty_bl | exact ty_str | exact ty_non
  | exact ty_L (by assumption) | exact ty_T (by assumption)
  | exact ty_L (SqL.of (by assumption)) | exact ty_T (SqT.of (by assumption)))
local macro_rules | `(tactic| walk_at "kit") => `(tactic| first
  | exact k_ii | exact k_ib | exact k_is | exact k_il | exact k_it
  | exact k_bb | exact k_bi | exact k_bs | exact k_bl | exact k_bt
  | exact k_ss | exact k_sb | exact k_si | exact k_sl | exact k_st
  | exact k_ll | exact k_lb | exact k_li | exact k_ls | exact k_lt
  | exact k_tt | exact k_tb | exact k_ti | exact k_ts | exact k_tl
  | exact k_nn | exact k_ni | exact k_ns | exact k_nl | exact k_nt)
local macro_rules | `(tactic| walk_at "s1") => `(tactic| first
  | with_reducible refine w_seq ?_
  | with_reducible refine w_set ?_
  | with_reducible refine w_op ?_
  | ((with_reducible refine' w_var ?h1 ?_); (case h1 => rfl))
  | with_reducible refine w_c ?_
  | with_reducible refine w_cb ?_
  | with_reducible refine w_cons ?_
  | with_reducible refine w_nil ?_
  | with_reducible refine w_I0 ?_
  | ((with_reducible refine' w_I ?c1 ?_); case c1 => walk_at "cond")
  | with_reducible refine w_ret ?_
  | with_reducible refine w_next ?_
  | with_reducible refine w_ifS ?_
  | with_reducible refine w_test ?_
  | with_reducible refine w_tB ?_
  | with_reducible refine w_k ?_
  | with_reducible refine w_eqI ?_
  | with_reducible refine w_neI ?_
  | with_reducible refine w_eqS ?_
  | with_reducible refine w_neS ?_
  | with_reducible refine w_and ?_
  | with_reducible refine w_or ?_
  | with_reducible refine w_not ?_
  | with_reducible refine w_andV ?_
  | with_reducible refine w_orV ?_
  | with_reducible refine w_notV ?_
  | with_reducible refine w_ifE ?_
  | with_reducible refine w_true ?_
  | with_reducible refine w_false ?_
  | with_reducible refine w_ntrue ?_
  | with_reducible refine w_nfalse ?_
  | with_reducible refine w_call ?_
  | with_reducible refine c_int ?_
  | with_reducible refine c_abs ?_
  | with_reducible refine c_max ?_
  | with_reducible refine c_min ?_
  | with_reducible refine w_drop ?_
  | with_reducible refine w_sfld ?_
  | with_reducible refine w_meth ?_
  | with_reducible refine w_make ?_
  | with_reducible refine w_prop ?_
  | with_reducible refine w_callK ?_
  | with_reducible refine w_callN ?_
  | with_reducible refine w_star ?_
  | with_reducible refine w_gcons ?_
  | with_reducible refine w_gname ?_
  | with_reducible refine w_gnil ?_
  | with_reducible refine w_retN ?_
  | with_reducible refine w_tup ?_
  | with_reducible refine w_lst ?_
  | with_reducible refine w_fld ?_
  | with_reducible refine w_bm ?_
  | with_reducible refine w_bm0 ?_
  | with_reducible refine w_forL ?_
  | with_reducible refine w_forT ?_
  | with_reducible refine w_forS ?_
  | with_reducible refine w_forR ?_
  | with_reducible refine w_lcR ?_
  | with_reducible refine w_lcL ?_
  | with_reducible refine w_lcT ?_
  | with_reducible refine w_isN ?_
  | with_reducible refine w_notN ?_
  | with_reducible refine w_asg ?_
  | with_reducible refine w_gsub ?_
  | ((with_reducible refine' w_aug ?h1 ?_); (case h1 => rfl))
  | with_reducible refine w_augS ?_
  | with_reducible refine w_ipI ?_
  | with_reducible refine w_un ?_
  | with_reducible refine w_U ?_
  | ((with_reducible refine' w_iteF ?f1 ?_); case f1 => (first | (intro h; cases h; done) | decide))
  | ((with_reducible refine' w_iteT ?f1 ?_); case f1 => rfl)
  | ((with_reducible refine' w_iteNF ?f1 ?_); case f1 => rfl)
  | ((with_reducible refine' w_iteNT ?f1 ?_); case f1 => (first | (intro h; cases h; done) | decide))
  | ((with_reducible refine' c_isi ?t1 ?k1 ?_); (case t1 => walk_at "ty"); (case k1 => walk_at "kit"))
  | ((with_reducible refine' w_eq ?e1 ?_); case e1 => rfl)
  | ((with_reducible refine' w_ne ?e1 ?_); case e1 => rfl)
  | walk_at "u1")
local macro_rules | `(tactic| walk_at "s") => `(tactic| repeat walk_at "s1")
local macro_rules | `(tactic| walk_at "mem") => `(tactic| first | with_reducible exact List.mem_cons_self .. | ((with_reducible refine' List.mem_cons_of_mem _ ?q); (case q => walk_at "mem")) | assumption | ((with_reducible refine' List.mem_append_right _ ?q); (case q => walk_at "mem")) | (exact List.mem_append_left _ (by assumption)))
local macro_rules | `(tactic| walk_at "pk") => `(tactic| first | with_reducible exact Pk.here | ((with_reducible refine' Pk.there ?q); (case q => walk_at "pk")) | ((with_reducible refine' Pk.app ?q); (case q => walk_at "pk")))
local macro_rules | `(tactic| walk_at "pkb") => `(tactic| first | with_reducible exact PkB.here | ((with_reducible refine' PkB.there ?q); (case q => walk_at "pkb")) | ((with_reducible refine' PkB.app ?q); (case q => walk_at "pkb")))
local macro_rules | `(tactic| walk_at "spl") => `(tactic| first | with_reducible exact Spl.nil | ((with_reducible refine' Spl.cons ?h ?t); (case h => walk_at "pk"); (case t => walk_at "spl")) | ((with_reducible refine' Spl.blk ?h ?t); (case h => walk_at "pkb"); (case t => walk_at "spl")))
local macro_rules | `(tactic| walk_at "sbx") => `(tactic| first | with_reducible exact Sb.refl | with_reducible exact Sb.nil | with_reducible exact Sb.left | ((with_reducible refine' Sb.cons ?h ?t); (case h => walk_at "pk"); (case t => walk_at "sbx")) | ((with_reducible refine' Sb.blk ?h ?t); (case h => walk_at "pkb"); (case t => walk_at "sbx")) | ((with_reducible refine' Sb.drop ?q); (case q => walk_at "sbx")) | ((with_reducible refine' Sb.right ?q); (case q => walk_at "sbx")))
local macro_rules | `(tactic| walk_at "hd") => `(tactic| first | assumption | exact Hd.sb (by assumption) (by walk_at "sbx"))
local macro_rules | `(tactic| walk_at "sq") => `(tactic| first
  | assumption
  | exact Hd.sqL (by assumption) (by walk_at "mem")
  | exact Hd.sqT (by assumption) (by walk_at "mem")
  | exact Hd.sqF (by assumption) (by walk_at "mem")
  | (refine .inl ?_; walk_at "sq")
  | (refine .inr ?_; walk_at "sq"))
local macro_rules | `(tactic| walk_at "at") => `(tactic| first | rfl | assumption | exact atI_nat (by assumption))
local macro_rules | `(tactic| walk_at "dn1") => `(tactic| first
  | exact Dn.int | exact Dn.str | exact Dn.non | exact Dn.bl | assumption
  | ((refine' Dn.tp ?a1 ?m1 ?l1 ?p1); (case a1 => assumption); (case m1 => walk_at "mem"); (case l1 => (simp only [List.length_cons, List.length_nil]; omega)); (case p1 => walk_at "dns"))
  | ((refine' Dn.lt ?a1 ?m1 ?l1 ?p1); (case a1 => assumption); (case m1 => walk_at "mem"); (case l1 => (simp only [List.length_cons, List.length_nil]; omega)); (case p1 => walk_at "dns")))
local macro_rules | `(tactic| walk_at "dns") => `(tactic| first | exact Paired.nil | exact Dn.ints | ((refine' Paired.cons ?a1 ?b1); (case a1 => walk_at "dn1"); (case b1 => walk_at "dns")))
local macro_rules | `(tactic| walk_at "g1") => `(tactic| first
  | ((with_reducible refine' g_ixI ?h1 ?h2 ?h3 ?_); (case h1 => assumption); (case h2 => walk_at "mem"); (case h3 => omega); intro z hz)
  | ((with_reducible refine' g_ixIT ?h1 ?h2 ?h3 ?_); (case h1 => assumption); (case h2 => walk_at "mem"); (case h3 => omega); intro z hz)
  | ((with_reducible refine' g_setI ?h1 ?h2 ?h3 ?_); (case h1 => assumption); (case h2 => walk_at "pk"); (case h3 => omega); intro H2 hh2)
  | ((with_reducible refine' w_ixL ?h1 ?h2 ?_); (case h1 => walk_at "sq"); (case h2 => walk_at "at"))
  | ((with_reducible refine' w_ixT ?h1 ?h2 ?_); (case h1 => walk_at "sq"); (case h2 => walk_at "at"))
  | ((with_reducible refine' w_ixAny ?h1 ?h2 ?_); (case h1 => walk_at "sq"); (case h2 => walk_at "at"))
  | ((with_reducible refine' c_lenA ?h1 ?_); (case h1 => walk_at "sq"))
  | ((with_reducible refine' c_isi ?t1 ?k1 ?_); (case t1 => first | exact ty_T (by walk_at "sq") | exact ty_L (by walk_at "sq")); (case k1 => walk_at "kit"))
  | ((with_reducible refine' g_lst ?h1 ?h2 ?_); (case h1 => assumption); (case h2 => walk_at "sz"); intro p H2 hh2)
  | ((with_reducible refine' g_tup ?h1 ?h2 ?_); (case h1 => assumption); (case h2 => walk_at "sz"); intro p H2 hh2)
  | ((with_reducible refine' g_dict ?h1 ?_); (case h1 => assumption); intro p H2 hh2)
  | ((with_reducible refine' g_listL ?h1 ?h2 ?_); (case h1 => assumption); (case h2 => walk_at "sq"); intro p H2 hh2)
  | ((with_reducible refine' g_listT ?h1 ?h2 ?_); (case h1 => assumption); (case h2 => walk_at "sq"); intro p H2 hh2)
  | ((with_reducible refine' g_tupL ?h1 ?h2 ?_); (case h1 => assumption); (case h2 => walk_at "sq"); intro p H2 hh2)
  | ((with_reducible refine' g_set ?h1 ?h2 ?h3 ?_); (case h1 => assumption); (case h2 => walk_at "pk"); (case h3 => first | rfl | assumption | exact Evl.ixN_nat (by first | omega | (simp only [List.length_cons, List.length_nil]; omega))); intro H2 hh2)
  | ((with_reducible refine' g_kbm ?h1 ?h2 ?_); (case h1 => assumption); (case h2 => walk_at "mem"))
  | ((with_reducible refine' g_kbm0 ?h1 ?h2 ?_); (case h1 => assumption); (case h2 => walk_at "mem"))
  | ((with_reducible refine' g_app ?h1 ?h2 ?h3 ?_); (case h1 => assumption); (case h2 => walk_at "pk"); (case h3 => walk_at "sz"); intro H2 hh2)
  | ((with_reducible refine' g_kapp ?h1 ?h2 ?h3 ?_); (case h1 => assumption); (case h2 => walk_at "pk"); (case h3 => walk_at "sz"); intro H2 hh2)
  | ((with_reducible refine' g_fld ?h1 ?h2 ?h3 ?h4 ?h5 ?_); (case h1 => assumption); (case h2 => walk_at "mem"); (case h3 => assumption); (case h4 => assumption); (case h5 => rfl))
  | ((with_reducible refine' g_sfld ?h1 ?h2 ?h3 ?h4 ?h5 ?_); (case h1 => assumption); (case h2 => walk_at "pk"); (case h3 => assumption); (case h4 => assumption); (case h5 => decide); intro H2 hh2)
  | ((with_reducible refine' g_meth ?h1 ?h2 ?h3 ?_); (case h1 => assumption); (case h2 => walk_at "mem"); (case h3 => rfl))
  | ((with_reducible refine' g_prop ?h1 ?h2 ?_); (case h1 => assumption); (case h2 => walk_at "mem"))
  | ((with_reducible refine' g_make ?h1 ?_); (case h1 => assumption); intro x H2 hh2)
  | ((with_reducible refine' g_cat ?h1 ?h2 ?h3 ?h4 ?_); (case h1 => assumption); (case h2 => walk_at "mem"); (case h3 => walk_at "mem"); (case h4 => walk_at "sz"); intro p H2 hh2)
  | ((with_reducible refine' g_inT ?h1 ?h2 ?h3 ?h4 ?h5 ?_); (case h1 => assumption); (case h2 => walk_at "mem"); (case h3 => rfl); (case h4 => rfl); (case h5 => rfl)))
local macro_rules | `(tactic| walk_at "gs") => `(tactic| repeat first | walk_at "s1" | walk_at "g1")
local macro_rules | `(tactic| walk_at "ite") => `(tactic| first
  | ((with_reducible refine' w_iteT ?h1 ?_); (case h1 => omega))
  | ((with_reducible refine' w_iteF ?h1 ?_); (case h1 => omega))
  | (with_reducible refine w_ite ?_ ?_ <;> intro hq)
  | ((with_reducible refine' w_iteNT ?h1 ?_); (case h1 => omega))
  | ((with_reducible refine' w_iteNF ?h1 ?_); (case h1 => omega))
  | (with_reducible refine w_iteN ?_ ?_ <;> intro hq))
local macro_rules | `(tactic| walk_at "go") => `(tactic| repeat' first | walk_at "s1" | walk_at "g1" | walk_at "ite")
section
variable {P : Program} {w : World} {K : PySem.W.Frag} {mg : Str → Option Value} {base : Heap} {aREG aOPS : Addr}
def isR (v : V) (lo hi : Int) : Bool := match v with
  | .int i => decide (lo ≤ i ∧ i ≤ hi)
  | _ => false
def isI (v : V) : Bool := match v with
  | .int _ => true
  | _ => false
theorem kh_ty {H : Hp} {v : V} {t : String} (h : KH K H v t) : TyX K H v (.type t) := by
  cases h with
  | non => exact ty_non
  | bl => exact ty_bl
  | int => exact ty_int
  | str => exact ty_str
  | lst e => exact ty_L e
  | tup e => exact ty_T e
def sp_integer (K : PySem.W.Frag) : Sp := fun vs H Q _ => ∃ (v : V) (t : String), vs = [v] ∧ KH K H v t ∧ Q (.bl (isI v)) H
theorem c_integer (T : Txt K mg aREG aOPS) (d : DefAt K mg "is_integer" s_is_integer) : C8.Cal P w K mg base 1 "is_integer" (sp_integer K) [] := by
  refine mk d sc_is_integer (fun _ _ _ _ _ _ us hl => match us, hl with | [_], _ => rfl) (fun vs H Q E h => ?_) (fun f cdv A outer s H vs Q E hr h => ?_)
  · obtain ⟨v, t, rfl, _⟩ := h
    rfl
  · obtain ⟨v, t, rfl, kh, q⟩ := h
    refine ⟨_, (pss_one (ps_ret (pe_and (pe_callB call_isi (by rfl) T.b_isinstance (by decide +kernel) (pa_cons (pv 0) (pa_cons (pe_bltn (v := .ty "int") (by rfl) T.b_int (by decide +kernel) rfl) pa_nil))) (pe_one (pe_not (pe_callB call_isi (by rfl) T.b_isinstance (by decide +kernel) (pa_cons (pv 0) (pa_cons (pe_bltn (v := .ty "bool") (by rfl) T.b_bool (by decide +kernel) rfl) pa_nil)))))))), ?_⟩
    have ty := kh_ty kh
    cases kh <;> (walk_at "s"; exact q)
theorem u_integer {H : Hp} {v : V} {t : String} {Q : VK} {E : XK} (kh : KH K H v t) (q : Q (.bl (isI v)) H) : sp_integer K [v] H Q E := ⟨v, t, rfl, kh, q⟩
def sp_range (K : PySem.W.Frag) : Sp := fun vs H Q _ => ∃ (v : V) (t : String) (lo hi : Int), vs = [v, .int lo, .int hi] ∧ KH K H v t ∧ Q (.bl (isR v lo hi)) H
theorem u_range {H : Hp} {v : V} {t : String} {lo hi : Int} {Q : VK} {E : XK} (kh : KH K H v t) (q : Q (.bl (isR v lo hi)) H) : sp_range K [v, .int lo, .int hi] H Q E := ⟨v, t, lo, hi, rfl, kh, q⟩
theorem c_range (T : Txt K mg aREG aOPS) (d : DefAt K mg "is_in_range" s_is_in_range) (c_is_integer : C8.Cal P w K mg base 1 "is_integer" (sp_integer K) []) : C8.Cal P w K mg base 2 "is_in_range" (sp_range K) [] := by
  refine mk d sc_is_in_range (fun _ _ _ _ _ _ us hl => match us, hl with | [_, _, _], _ => rfl) (fun vs H Q E h => ?_) (fun f cdv A outer s H vs Q E hr h => ?_)
  · obtain ⟨v, t, lo, hi, rfl, _⟩ := h
    rfl
  · obtain ⟨v, t, lo, hi, rfl, kh, q⟩ := h
    refine ⟨_, (pss_one (ps_ret (pe_and (C8.pe_c c_is_integer hr (by first | decide | omega) rfl (pa_cons (pv 0) pa_nil)) (pe_one (pe_chain op_le op_le (pv 1) (pv 0) (pv 2)))))), ?_⟩
    walk_at "s"
    refine u_integer kh ?_
    cases kh with
    | int =>
      walk_at "s"
      show tChain (rI0 fun i j => V.bl (decide (i ≤ j))) (rI0 fun i j => V.bl (decide (i ≤ j))) (tVar 1) (tVar 0) (tVar 2) _ H _
      rename_i i
      refine ⟨_, rfl, _, rfl, _, _, rfl, rfl, _, rfl, ?_⟩
      by_cases h1 : lo ≤ i
      · rw [decide_eq_true h1]
        refine ⟨_, rfl, _, _, rfl, rfl, ?_⟩
        have e : decide (i ≤ hi) = isR (.int i) lo hi := by simp [isR, h1]
        show Q (.bl (decide (i ≤ hi))) H
        rw [e]
        exact q
      · rw [decide_eq_false h1]
        have e : false = isR (.int i) lo hi := by simp [isR, h1]
        show Q (.bl false) H
        rw [e]
        exact q
    | _ =>
      walk_at "s"
      exact q
def sp_ask (K : PySem.W.Frag) : Sp := fun vs H Q _ => ∃ (z : Str) (v : V) (t : String) (lo hi : Int), vs = [.str z, v, .int lo, .int hi] ∧ KH K H v t ∧ isR v lo hi = true ∧ Q .non H
theorem u_ask {H : Hp} {z : Str} {i lo hi : Int} {Q : VK} {E : XK} (h : lo ≤ i ∧ i ≤ hi) (q : Q .non H) : sp_ask K [.str z, .int i, .int lo, .int hi] H Q E := ⟨z, .int i, "int", lo, hi, rfl, .int, decide_eq_true h, q⟩
theorem c_ask (T : Txt K mg aREG aOPS) (d : DefAt K mg "ask_range" s_ask_range) (c_is_in_range : C8.Cal P w K mg base 2 "is_in_range" (sp_range K) []) : C8.Cal P w K mg base 3 "ask_range" (sp_ask K) [] := by
  refine mk d sc_ask_range (fun _ _ _ _ _ _ us hl => match us, hl with | [_, _, _, _], _ => rfl) (fun vs H Q E h => ?_) (fun f cdv A outer s H vs Q E hr h => ?_)
  · obtain ⟨z, v, t, lo, hi, rfl, _⟩ := h
    rfl
  · obtain ⟨z, v, t, lo, hi, rfl, kh, hb, q⟩ := h
    refine ⟨_, (pss_one (ps_if (pt_not (pt_val (C8.pe_c c_is_in_range hr (by first | decide | omega) rfl (pa_cons (pv 1) (pa_cons (pv 2) (pa_cons (pv 3) pa_nil))))))
    (pss_one ps_never)
    pss_nil)), ?_⟩
    walk_at "s"
    refine u_range kh ?_
    rw [hb]
    walk_at "s"
    exact q
def sp_askT : Sp := fun vs H Q _ => ∃ (z : Str) (b : Bool), vs = [.str z, .bl b] ∧ Q .non H
theorem c_askT (T : Txt K mg aREG aOPS) (d : DefAt K mg "ask_truth" s_ask_truth) : C8.Cal P w K mg base 1 "ask_truth" sp_askT [] := by
  refine mk d sc_ask_truth (fun _ _ _ _ _ _ us hl => match us, hl with | [_, _], _ => rfl) (fun vs H Q E h => ?_) (fun f cdv A outer s H vs Q E hr h => ?_)
  · obtain ⟨z, b, rfl, _⟩ := h
    rfl
  · obtain ⟨z, b, rfl, q⟩ := h
    refine ⟨_, (pss_one (ps_if (pt_not (pt_val (pe_callB call_isi (by rfl) T.b_isinstance (by decide +kernel) (pa_cons (pv 1) (pa_cons (pe_bltn (v := .ty "bool") (by rfl) T.b_bool (by decide +kernel) rfl) pa_nil)))))
    (pss_one ps_never)
    pss_nil)), ?_⟩
    walk_at "s"
    exact q
end
end K24
set_option Elab.async false
set_option linter.all false
set_option maxRecDepth 100000
set_option maxHeartbeats 4000000
namespace K24
open PySem PySem.Spec PyProof.Rows L2 Wk
local macro_rules | `(tactic| walk_at "u1") => `(tactic| fail "no more")
local macro_rules | `(tactic| walk_at "pos") => `(tactic| first | assumption | omega | decide | (simp only [Int.ofNat_eq_natCast] at *; omega))
local macro_rules | `(tactic| walk_at "sz") => `(tactic| first
  | (simp only [List.length_cons, List.length_nil]; decide)
  | exact Evl.sz_of (by omega)
  | exact Evl.sz_lt (by omega)
  | exact Evl.sz_of (by simp only [List.length_map, List.length_append, List.length_cons, List.length_nil, List.length_replicate]; omega)
  | exact Evl.sz_lt (by simp only [List.length_map, List.length_append, List.length_cons, List.length_nil, List.length_replicate]; omega))
local macro_rules | `(tactic| walk_at "cond") => `(tactic| first
  | exact Or.inr ⟨by decide, by decide⟩
  | (show (0 : Int) < _; first | decide | assumption | omega)
  | exact Or.inl ⟨by omega, by omega⟩
  | exact Or.inr ⟨by omega, by omega⟩
  | exact ⟨by decide, by decide, by decide⟩
  | exact log2_lt (by omega) (by omega)
  | exact ⟨by omega, by omega⟩)
local macro_rules | `(tactic| walk_at "ty") => `(tactic| first
  | exact ty_int | exact ty_bl | exact ty_str | exact ty_non
  | exact ty_L (by assumption) | exact ty_T (by assumption)
  | exact ty_L (SqL.of (by assumption)) | exact ty_T (SqT.of (by assumption)))
local macro_rules | `(tactic| walk_at "kit") => `(tactic| first
  | exact k_ii | exact k_ib | exact k_is | exact k_il | exact k_it
  | exact k_bb | exact k_bi | exact k_bs | exact k_bl | exact k_bt
  | exact k_ss | exact k_sb | exact k_si | exact k_sl | exact k_st
  | exact k_ll | exact k_lb | exact k_li | exact k_ls | exact k_lt
  | exact k_tt | exact k_tb | exact k_ti | exact k_ts | exact k_tl
  | exact k_nn | exact k_ni | exact k_ns | exact k_nl | exact k_nt)
local macro_rules | `(tactic| walk_at "s1") => `(tactic| first
  | with_reducible refine w_seq ?_
  | with_reducible refine w_set ?_
  | with_reducible refine w_op ?_
  | ((with_reducible refine' w_var ?h1 ?_); (case h1 => rfl))
  | with_reducible refine w_c ?_
  | with_reducible refine w_cb ?_
  | with_reducible refine w_cons ?_
  | with_reducible refine w_nil ?_
  | with_reducible refine w_I0 ?_
  | ((with_reducible refine' w_I ?c1 ?_); case c1 => walk_at "cond")
  | with_reducible refine w_ret ?_
  | with_reducible refine w_next ?_
  | with_reducible refine w_ifS ?_
  | with_reducible refine w_test ?_
  | with_reducible refine w_tB ?_
  | with_reducible refine w_k ?_
  | with_reducible refine w_eqI ?_
  | with_reducible refine w_neI ?_
  | with_reducible refine w_eqS ?_
  | with_reducible refine w_neS ?_
  | with_reducible refine w_and ?_
  | with_reducible refine w_or ?_
  | with_reducible refine w_not ?_
  | with_reducible refine w_andV ?_
  | with_reducible refine w_orV ?_
  | with_reducible refine w_notV ?_
  | with_reducible refine w_ifE ?_
  | with_reducible refine w_true ?_
  | with_reducible refine w_false ?_
  | with_reducible refine w_ntrue ?_
  | with_reducible refine w_nfalse ?_
  | with_reducible refine w_call ?_
  | with_reducible refine c_int ?_
  | with_reducible refine c_abs ?_
  | with_reducible refine c_max ?_
  | with_reducible refine c_min ?_
  | with_reducible refine w_drop ?_
  | with_reducible refine w_sfld ?_
  | with_reducible refine w_meth ?_
  | with_reducible refine w_make ?_
  | with_reducible refine w_prop ?_
  | with_reducible refine w_callK ?_
  | with_reducible refine w_callN ?_
  | with_reducible refine w_star ?_
  | with_reducible refine w_gcons ?_
  | with_reducible refine w_gname ?_
  | with_reducible refine w_gnil ?_
  | with_reducible refine w_retN ?_
  | with_reducible refine w_tup ?_
  | with_reducible refine w_lst ?_
  | with_reducible refine w_fld ?_
  | with_reducible refine w_bm ?_
  | with_reducible refine w_bm0 ?_
  | with_reducible refine w_forL ?_
  | with_reducible refine w_forT ?_
  | with_reducible refine w_forS ?_
  | with_reducible refine w_forR ?_
  | with_reducible refine w_lcR ?_
  | with_reducible refine w_lcL ?_
  | with_reducible refine w_lcT ?_
  | with_reducible refine w_isN ?_
  | with_reducible refine w_notN ?_
  | with_reducible refine w_asg ?_
  | with_reducible refine w_gsub ?_
  | ((with_reducible refine' w_aug ?h1 ?_); (case h1 => rfl))
  | with_reducible refine w_augS ?_
  | with_reducible refine w_ipI ?_
  | with_reducible refine w_un ?_
  | with_reducible refine w_U ?_
  | ((with_reducible refine' w_iteF ?f1 ?_); case f1 => (first | (intro h; cases h; done) | decide))
  | ((with_reducible refine' w_iteT ?f1 ?_); case f1 => rfl)
  | ((with_reducible refine' w_iteNF ?f1 ?_); case f1 => rfl)
  | ((with_reducible refine' w_iteNT ?f1 ?_); case f1 => (first | (intro h; cases h; done) | decide))
  | ((with_reducible refine' c_isi ?t1 ?k1 ?_); (case t1 => walk_at "ty"); (case k1 => walk_at "kit"))
  | ((with_reducible refine' w_eq ?e1 ?_); case e1 => rfl)
  | ((with_reducible refine' w_ne ?e1 ?_); case e1 => rfl)
  | walk_at "u1")
local macro_rules | `(tactic| walk_at "s") => `(tactic| repeat walk_at "s1")
local macro_rules | `(tactic| walk_at "mem") => `(tactic| first | with_reducible exact List.mem_cons_self .. | ((with_reducible refine' List.mem_cons_of_mem _ ?q); (case q => walk_at "mem")) | assumption | ((with_reducible refine' List.mem_append_right _ ?q); (case q => walk_at "mem")) | (exact List.mem_append_left _ (by assumption)))
local macro_rules | `(tactic| walk_at "pk") => `(tactic| first | with_reducible exact Pk.here | ((with_reducible refine' Pk.there ?q); (case q => walk_at "pk")) | ((with_reducible refine' Pk.app ?q); (case q => walk_at "pk")))
local macro_rules | `(tactic| walk_at "pkb") => `(tactic| first | with_reducible exact PkB.here | ((with_reducible refine' PkB.there ?q); (case q => walk_at "pkb")) | ((with_reducible refine' PkB.app ?q); (case q => walk_at "pkb")))
local macro_rules | `(tactic| walk_at "spl") => `(tactic| first | with_reducible exact Spl.nil | ((with_reducible refine' Spl.cons ?h ?t); (case h => walk_at "pk"); (case t => walk_at "spl")) | ((with_reducible refine' Spl.blk ?h ?t); (case h => walk_at "pkb"); (case t => walk_at "spl")))
local macro_rules | `(tactic| walk_at "sbx") => `(tactic| first | with_reducible exact Sb.refl | with_reducible exact Sb.nil | with_reducible exact Sb.left | ((with_reducible refine' Sb.cons ?h ?t); (case h => walk_at "pk"); (case t => walk_at "sbx")) | ((with_reducible refine' Sb.blk ?h ?t); (case h => walk_at "pkb"); (case t => walk_at "sbx")) | ((with_reducible refine' Sb.drop ?q); (case q => walk_at "sbx")) | ((with_reducible refine' Sb.right ?q); (case q => walk_at "sbx")))
local macro_rules | `(tactic| walk_at "hd") => `(tactic| first | assumption | exact Hd.sb (by assumption) (by walk_at "sbx"))
local macro_rules | `(tactic| walk_at "sq") => `(tactic| first
  | assumption
  | exact Hd.sqL (by assumption) (by walk_at "mem")
  | exact Hd.sqT (by assumption) (by walk_at "mem")
  | exact Hd.sqF (by assumption) (by walk_at "mem")
  | (refine .inl ?_; walk_at "sq")
  | (refine .inr ?_; walk_at "sq"))
local macro_rules | `(tactic| walk_at "at") => `(tactic| first | rfl | assumption | exact atI_nat (by assumption))
local macro_rules | `(tactic| walk_at "dn1") => `(tactic| first
  | exact Dn.int | exact Dn.str | exact Dn.non | exact Dn.bl | assumption
  | ((refine' Dn.tp ?a1 ?m1 ?l1 ?p1); (case a1 => assumption); (case m1 => walk_at "mem"); (case l1 => (simp only [List.length_cons, List.length_nil]; omega)); (case p1 => walk_at "dns"))
  | ((refine' Dn.lt ?a1 ?m1 ?l1 ?p1); (case a1 => assumption); (case m1 => walk_at "mem"); (case l1 => (simp only [List.length_cons, List.length_nil]; omega)); (case p1 => walk_at "dns")))
local macro_rules | `(tactic| walk_at "dns") => `(tactic| first | exact Paired.nil | exact Dn.ints | ((refine' Paired.cons ?a1 ?b1); (case a1 => walk_at "dn1"); (case b1 => walk_at "dns")))
local macro_rules | `(tactic| walk_at "g1") => `(tactic| first
  | ((with_reducible refine' g_ixI ?h1 ?h2 ?h3 ?_); (case h1 => assumption); (case h2 => walk_at "mem"); (case h3 => omega); intro z hz)
  | ((with_reducible refine' g_ixIT ?h1 ?h2 ?h3 ?_); (case h1 => assumption); (case h2 => walk_at "mem"); (case h3 => omega); intro z hz)
  | ((with_reducible refine' g_setI ?h1 ?h2 ?h3 ?_); (case h1 => assumption); (case h2 => walk_at "pk"); (case h3 => omega); intro H2 hh2)
  | ((with_reducible refine' w_ixL ?h1 ?h2 ?_); (case h1 => walk_at "sq"); (case h2 => walk_at "at"))
  | ((with_reducible refine' w_ixT ?h1 ?h2 ?_); (case h1 => walk_at "sq"); (case h2 => walk_at "at"))
  | ((with_reducible refine' w_ixAny ?h1 ?h2 ?_); (case h1 => walk_at "sq"); (case h2 => walk_at "at"))
  | ((with_reducible refine' c_lenA ?h1 ?_); (case h1 => walk_at "sq"))
  | ((with_reducible refine' c_isi ?t1 ?k1 ?_); (case t1 => first | exact ty_T (by walk_at "sq") | exact ty_L (by walk_at "sq")); (case k1 => walk_at "kit"))
  | ((with_reducible refine' g_lst ?h1 ?h2 ?_); (case h1 => assumption); (case h2 => walk_at "sz"); intro p H2 hh2)
  | ((with_reducible refine' g_tup ?h1 ?h2 ?_); (case h1 => assumption); (case h2 => walk_at "sz"); intro p H2 hh2)
  | ((with_reducible refine' g_dict ?h1 ?_); (case h1 => assumption); intro p H2 hh2)
  | ((with_reducible refine' g_listL ?h1 ?h2 ?_); (case h1 => assumption); (case h2 => walk_at "sq"); intro p H2 hh2)
  | ((with_reducible refine' g_listT ?h1 ?h2 ?_); (case h1 => assumption); (case h2 => walk_at "sq"); intro p H2 hh2)
  | ((with_reducible refine' g_tupL ?h1 ?h2 ?_); (case h1 => assumption); (case h2 => walk_at "sq"); intro p H2 hh2)
  | ((with_reducible refine' g_set ?h1 ?h2 ?h3 ?_); (case h1 => assumption); (case h2 => walk_at "pk"); (case h3 => first | rfl | assumption | exact Evl.ixN_nat (by first | omega | (simp only [List.length_cons, List.length_nil]; omega))); intro H2 hh2)
  | ((with_reducible refine' g_kbm ?h1 ?h2 ?_); (case h1 => assumption); (case h2 => walk_at "mem"))
  | ((with_reducible refine' g_kbm0 ?h1 ?h2 ?_); (case h1 => assumption); (case h2 => walk_at "mem"))
  | ((with_reducible refine' g_app ?h1 ?h2 ?h3 ?_); (case h1 => assumption); (case h2 => walk_at "pk"); (case h3 => walk_at "sz"); intro H2 hh2)
  | ((with_reducible refine' g_kapp ?h1 ?h2 ?h3 ?_); (case h1 => assumption); (case h2 => walk_at "pk"); (case h3 => walk_at "sz"); intro H2 hh2)
  | ((with_reducible refine' g_fld ?h1 ?h2 ?h3 ?h4 ?h5 ?_); (case h1 => assumption); (case h2 => walk_at "mem"); (case h3 => assumption); (case h4 => assumption); (case h5 => rfl))
  | ((with_reducible refine' g_sfld ?h1 ?h2 ?h3 ?h4 ?h5 ?_); (case h1 => assumption); (case h2 => walk_at "pk"); (case h3 => assumption); (case h4 => assumption); (case h5 => decide); intro H2 hh2)
  | ((with_reducible refine' g_meth ?h1 ?h2 ?h3 ?_); (case h1 => assumption); (case h2 => walk_at "mem"); (case h3 => rfl))
  | ((with_reducible refine' g_prop ?h1 ?h2 ?_); (case h1 => assumption); (case h2 => walk_at "mem"))
  | ((with_reducible refine' g_make ?h1 ?_); (case h1 => assumption); intro x H2 hh2)
  | ((with_reducible refine' g_cat ?h1 ?h2 ?h3 ?h4 ?_); (case h1 => assumption); (case h2 => walk_at "mem"); (case h3 => walk_at "mem"); (case h4 => walk_at "sz"); intro p H2 hh2)
  | ((with_reducible refine' g_inT ?h1 ?h2 ?h3 ?h4 ?h5 ?_); (case h1 => assumption); (case h2 => walk_at "mem"); (case h3 => rfl); (case h4 => rfl); (case h5 => rfl)))
local macro_rules | `(tactic| walk_at "gs") => `(tactic| repeat first | walk_at "s1" | walk_at "g1")
local macro_rules | `(tactic| walk_at "ite") => `(tactic| first
  | ((with_reducible refine' w_iteT ?h1 ?_); (case h1 => omega))
  | ((with_reducible refine' w_iteF ?h1 ?_); (case h1 => omega))
  | (with_reducible refine w_ite ?_ ?_ <;> intro hq)
  | ((with_reducible refine' w_iteNT ?h1 ?_); (case h1 => omega))
  | ((with_reducible refine' w_iteNF ?h1 ?_); (case h1 => omega))
  | (with_reducible refine w_iteN ?_ ?_ <;> intro hq))
local macro_rules | `(tactic| walk_at "go") => `(tactic| repeat' first | walk_at "s1" | walk_at "g1" | walk_at "ite")
local macro_rules | `(tactic| walk_at "g1") => `(tactic| first | with_reducible refine w_din ?_ | with_reducible refine w_dnotin ?_ | with_reducible refine w_dget ?_ | with_reducible refine w_dput ?_ | with_reducible refine w_ddel ?_ | with_reducible refine w_dpop ?_)
section
variable {P : Program} {w : World} {K : PySem.W.Frag} {mg : Str → Option Value} {base : Heap} {aREG aOPS : Addr}
/-! ### the draws, over the ledger -/
def stoC (st c : Addr) : Cell := (st, fun o => ∃ i b t z : Int, o = .lst [.ref c, .int i, .int b, .int t, .int z] ∧ 0 ≤ i ∧ 0 ≤ b ∧ 0 ≤ z ∧ z < 2147483647)
def scrC (c : Addr) : Cell := (c, fun o => ∃ ns : List Int, o = .lst (ns.map V.int))
section
variable {st c : Addr} {H H' : Hp} {L R : List Cell} {Q : VK} {E : XK}
theorem Hd.sto (h : Hd H L) (m1 : stoC st c ∈ L) (m2 : scrC c ∈ L) : StoreAt H st c := by
  obtain ⟨o, e, i, b, t, z, q, r⟩ := h.at_ _ m1
  obtain ⟨u, e2, ns, q2⟩ := h.at_ _ m2
  subst q; subst q2
  exact ⟨ns, i, b, t, z, e, e2, r⟩
theorem Hd.ofSto (S : StoreAt H st c) : Hd H [stoC st c, scrC c] := by
  have ne := S.ne
  obtain ⟨ns, i, b, t, z, e1, e2, r⟩ := S
  exact Hd.two (c := stoC st c) (d := scrC c) e1 ⟨i, b, t, z, rfl, r⟩ e2 ⟨ns, rfl⟩ (Ne.symm ne)
theorem Hd.st0 (h : Hd H (stoC st c :: scrC c :: R)) : StoreAt H st c := Hd.sto h (List.mem_cons_self ..) (List.mem_cons_of_mem _ (List.mem_cons_self ..))
theorem Hd.drawn (h : Hd H (stoC st c :: scrC c :: R)) (S : StoreAt H' st c) (u : Upt [st] H H') : Hd H' (stoC st c :: scrC c :: R) :=
  Hd.put (A := [stoC st c, scrC c]) (B := [stoC st c, scrC c]) h u (fun a ha => by rw [List.mem_singleton.mp ha]; exact List.mem_cons_self ..) (Hd.ofSto S) fun c hc => .inl (List.mem_map_of_mem hc)
theorem g_store {a : Addr} {ns : List Int} {z : Int} (hh : Hd H L) (h : SqL K H a (ns.map V.int)) (hl : ns.length ≤ 63) (h0 : 0 ≤ z) (h1 : z ≤ 200000) (q : ∀ st c H', Hd H' (stoC st c :: scrC c :: L) → Q (.ref st) H') : sp_store K [.ref a, .int z] H Q E :=
  u_store h hl h0 h1 fun st c H' n1 n2 S u => q st c H' (Hd.put (A := []) (B := [stoC st c, scrC c]) (S := []) hh u (by simp) (Hd.ofSto S) fun x hx => by
    rcases List.mem_cons.mp hx with rfl | hx
    · exact .inr n1
    · rw [List.mem_singleton.mp hx]; exact .inr n2)
theorem g_take {m : Int} (hh : Hd H L) (s : Spl L [stoC st c, scrC c] R) (hm : m ≤ 4611686018427387904) (q : ∀ (k : Nat) H', ((k : Int) < m ∨ k = 0) → Hd H' (stoC st c :: scrC c :: R) → Q (.int k) H') : sp_take [.ref st, .int m] H Q E :=
  have h := hh.spl s
  u_take (Hd.st0 h) hm fun k H' hk S u => by
    obtain ⟨j, rfl⟩ := Int.eq_ofNat_of_zero_le hk.1
    exact q j H' (by have := hk.2; omega) (Hd.drawn h S u)
theorem g_take1 {m : Int} (hh : Hd H L) (s : Spl L [stoC st c, scrC c] R) (hm : 0 < m) (hm2 : m ≤ 4611686018427387904) (q : ∀ (k : Nat) H', (k : Int) < m → Hd H' (stoC st c :: scrC c :: R) → Q (.int k) H') : sp_take [.ref st, .int m] H Q E :=
  g_take hh s hm2 fun k H' h0 hh' => q k H' (by omega) hh'
theorem g_pick {r : Addr} {xs : List V} (hh : Hd H L) (s : Spl L [stoC st c, scrC c] R) (m : lstC r xs ∈ R) (h0 : 0 < xs.length) (h1 : xs.length ≤ 100000) (q : ∀ v H', v ∈ xs → Hd H' (stoC st c :: scrC c :: R) → Q v H') : sp_pick K [.ref st, .ref r] H Q E :=
  have h := hh.spl s
  u_pick (Hd.st0 h) (h.sqL (List.mem_cons_of_mem _ (List.mem_cons_of_mem _ m))) (h.ne (c := stoC st c) (d := lstC r xs) (List.mem_cons_of_mem _ m)) h0 h1 fun v H' hv S u => q v H' hv (Hd.drawn h S u)
theorem g_between {lo hi : Int} (hh : Hd H L) (s : Spl L [stoC st c, scrC c] R) (h0 : lo ≤ hi) (h1 : hi - lo < 4611686018427387904) (q : ∀ k H', lo ≤ k → k ≤ hi → Hd H' (stoC st c :: scrC c :: R) → Q (.int k) H') : sp_between [.ref st, .int lo, .int hi] H Q E :=
  have h := hh.spl s
  u_between (Hd.st0 h) h0 h1 fun k H' hk S u => q k H' hk.1 hk.2 (Hd.drawn h S u)
theorem g_betweenN {lo hi : Int} (hh : Hd H L) (s : Spl L [stoC st c, scrC c] R) (hn : 0 ≤ lo) (h0 : lo ≤ hi) (h1 : hi - lo < 4611686018427387904) (q : ∀ (k : Nat) H', lo ≤ k → (k : Int) ≤ hi → Hd H' (stoC st c :: scrC c :: R) → Q (.int k) H') : sp_between [.ref st, .int lo, .int hi] H Q E :=
  g_between hh s h0 h1 fun k H' a b hh' => by
    obtain ⟨j, rfl⟩ := Int.eq_ofNat_of_zero_le (show 0 ≤ k by omega)
    exact q j H' a b hh'
theorem g_size {m : Int} (hh : Hd H L) (s : Spl L [stoC st c, scrC c] R) (h0 : 0 ≤ m) (h1 : m ≤ 1000000) (q : ∀ (k : Nat) H', (k : Int) ≤ m → Hd H' (stoC st c :: scrC c :: R) → Q (.int k) H') : sp_size [.ref st, .int m] H Q E :=
  have h := hh.spl s
  u_size (Hd.st0 h) h0 h1 fun k H' hk S u => by
    obtain ⟨j, rfl⟩ := Int.eq_ofNat_of_zero_le hk.1
    exact q j H' hk.2 (Hd.drawn h S u)
theorem g_word (hh : Hd H L) (s : Spl L [stoC st c, scrC c] R) (q : ∀ (k : Nat) H', k ≤ 65535 → Hd H' (stoC st c :: scrC c :: R) → Q (.int k) H') : sp_word [.ref st] H Q E :=
  have h := hh.spl s
  u_word (Hd.st0 h) fun k H' hk S u => by
    obtain ⟨j, rfl⟩ := Int.eq_ofNat_of_zero_le hk.1
    exact q j H' (by omega) (Hd.drawn h S u)
theorem g_alike {n : Nat} {v1 v2 : V} {d : PyData} (h1 : Dn K [] H n v1 d) (h2 : Dn K [] H n v2 d) (q : Q (.bl true) H) : sp_alike K (n + 1) [v1, v2] H Q E := ⟨v1, v2, d, rfl, ⟨h1, h2⟩, q⟩
end
theorem rep_ints {k : Int} : ∀ n : Nat, (List.replicate n [V.int k]).flatten = (List.replicate n k).map V.int
  | 0 => rfl
  | n + 1 => by rw [List.replicate_succ, List.flatten_cons, rep_ints n, List.replicate_succ, List.map_cons]; rfl
end
end K24
set_option Elab.async false
set_option linter.all false
set_option maxRecDepth 100000
set_option maxHeartbeats 4000000
namespace K24
open PySem PySem.Spec PyProof.Rows L2 Wk
local macro_rules | `(tactic| walk_at "u1") => `(tactic| fail "no more")
local macro_rules | `(tactic| walk_at "pos") => `(tactic| first | assumption | omega | decide | (simp only [Int.ofNat_eq_natCast] at *; omega))
local macro_rules | `(tactic| walk_at "sz") => `(tactic| first
  | (simp only [List.length_cons, List.length_nil]; decide)
  | exact Evl.sz_of (by omega)
  | exact Evl.sz_lt (by omega)
  | exact Evl.sz_of (by simp only [List.length_map, List.length_append, List.length_cons, List.length_nil, List.length_replicate]; omega)
  | exact Evl.sz_lt (by simp only [List.length_map, List.length_append, List.length_cons, List.length_nil, List.length_replicate]; omega))
local macro_rules | `(tactic| walk_at "cond") => `(tactic| first
  | exact Or.inr ⟨by decide, by decide⟩
  | (show (0 : Int) < _; first | decide | assumption | omega)
  | exact Or.inl ⟨by omega, by omega⟩
  | exact Or.inr ⟨by omega, by omega⟩
  | exact ⟨by decide, by decide, by decide⟩
  | exact log2_lt (by omega) (by omega)
  | exact ⟨by omega, by omega⟩)
local macro_rules | `(tactic| walk_at "ty") => `(tactic| first
  | exact ty_int | exact ty_bl | exact ty_str | exact ty_non
  | exact ty_L (by assumption) | exact ty_T (by assumption)
  | exact ty_L (SqL.of (by assumption)) | exact ty_T (SqT.of (by assumption)))
local macro_rules | `(tactic| walk_at "kit") => `(tactic| first
  | exact k_ii | exact k_ib | exact k_is | exact k_il | exact k_it
  | exact k_bb | exact k_bi | exact k_bs | exact k_bl | exact k_bt
  | exact k_ss | exact k_sb | exact k_si | exact k_sl | exact k_st
  | exact k_ll | exact k_lb | exact k_li | exact k_ls | exact k_lt
  | exact k_tt | exact k_tb | exact k_ti | exact k_ts | exact k_tl
  | exact k_nn | exact k_ni | exact k_ns | exact k_nl | exact k_nt)
local macro_rules | `(tactic| walk_at "s1") => `(tactic| first
  | with_reducible refine w_seq ?_
  | with_reducible refine w_set ?_
  | with_reducible refine w_op ?_
  | ((with_reducible refine' w_var ?h1 ?_); (case h1 => rfl))
  | with_reducible refine w_c ?_
  | with_reducible refine w_cb ?_
  | with_reducible refine w_cons ?_
  | with_reducible refine w_nil ?_
  | with_reducible refine w_I0 ?_
  | ((with_reducible refine' w_I ?c1 ?_); case c1 => walk_at "cond")
  | with_reducible refine w_ret ?_
  | with_reducible refine w_next ?_
  | with_reducible refine w_ifS ?_
  | with_reducible refine w_test ?_
  | with_reducible refine w_tB ?_
  | with_reducible refine w_k ?_
  | with_reducible refine w_eqI ?_
  | with_reducible refine w_neI ?_
  | with_reducible refine w_eqS ?_
  | with_reducible refine w_neS ?_
  | with_reducible refine w_and ?_
  | with_reducible refine w_or ?_
  | with_reducible refine w_not ?_
  | with_reducible refine w_andV ?_
  | with_reducible refine w_orV ?_
  | with_reducible refine w_notV ?_
  | with_reducible refine w_ifE ?_
  | with_reducible refine w_true ?_
  | with_reducible refine w_false ?_
  | with_reducible refine w_ntrue ?_
  | with_reducible refine w_nfalse ?_
  | with_reducible refine w_call ?_
  | with_reducible refine c_int ?_
  | with_reducible refine c_abs ?_
  | with_reducible refine c_max ?_
  | with_reducible refine c_min ?_
  | with_reducible refine w_drop ?_
  | with_reducible refine w_sfld ?_
  | with_reducible refine w_meth ?_
  | with_reducible refine w_make ?_
  | with_reducible refine w_prop ?_
  | with_reducible refine w_callK ?_
  | with_reducible refine w_callN ?_
  | with_reducible refine w_star ?_
  | with_reducible refine w_gcons ?_
  | with_reducible refine w_gname ?_
  | with_reducible refine w_gnil ?_
  | with_reducible refine w_retN ?_
  | with_reducible refine w_tup ?_
  | with_reducible refine w_lst ?_
  | with_reducible refine w_fld ?_
  | with_reducible refine w_bm ?_
  | with_reducible refine w_bm0 ?_
  | with_reducible refine w_forL ?_
  | with_reducible refine w_forT ?_
  | with_reducible refine w_forS ?_
  | with_reducible refine w_forR ?_
  | with_reducible refine w_lcR ?_
  | with_reducible refine w_lcL ?_
  | with_reducible refine w_lcT ?_
  | with_reducible refine w_isN ?_
  | with_reducible refine w_notN ?_
  | with_reducible refine w_asg ?_
  | with_reducible refine w_gsub ?_
  | ((with_reducible refine' w_aug ?h1 ?_); (case h1 => rfl))
  | with_reducible refine w_augS ?_
  | with_reducible refine w_ipI ?_
  | with_reducible refine w_un ?_
  | with_reducible refine w_U ?_
  | ((with_reducible refine' w_iteF ?f1 ?_); case f1 => (first | (intro h; cases h; done) | decide))
  | ((with_reducible refine' w_iteT ?f1 ?_); case f1 => rfl)
  | ((with_reducible refine' w_iteNF ?f1 ?_); case f1 => rfl)
  | ((with_reducible refine' w_iteNT ?f1 ?_); case f1 => (first | (intro h; cases h; done) | decide))
  | ((with_reducible refine' c_isi ?t1 ?k1 ?_); (case t1 => walk_at "ty"); (case k1 => walk_at "kit"))
  | ((with_reducible refine' w_eq ?e1 ?_); case e1 => rfl)
  | ((with_reducible refine' w_ne ?e1 ?_); case e1 => rfl)
  | walk_at "u1")
local macro_rules | `(tactic| walk_at "s") => `(tactic| repeat walk_at "s1")
local macro_rules | `(tactic| walk_at "mem") => `(tactic| first | with_reducible exact List.mem_cons_self .. | ((with_reducible refine' List.mem_cons_of_mem _ ?q); (case q => walk_at "mem")) | assumption | ((with_reducible refine' List.mem_append_right _ ?q); (case q => walk_at "mem")) | (exact List.mem_append_left _ (by assumption)))
local macro_rules | `(tactic| walk_at "pk") => `(tactic| first | with_reducible exact Pk.here | ((with_reducible refine' Pk.there ?q); (case q => walk_at "pk")) | ((with_reducible refine' Pk.app ?q); (case q => walk_at "pk")))
local macro_rules | `(tactic| walk_at "pkb") => `(tactic| first | with_reducible exact PkB.here | ((with_reducible refine' PkB.there ?q); (case q => walk_at "pkb")) | ((with_reducible refine' PkB.app ?q); (case q => walk_at "pkb")))
local macro_rules | `(tactic| walk_at "spl") => `(tactic| first | with_reducible exact Spl.nil | ((with_reducible refine' Spl.cons ?h ?t); (case h => walk_at "pk"); (case t => walk_at "spl")) | ((with_reducible refine' Spl.blk ?h ?t); (case h => walk_at "pkb"); (case t => walk_at "spl")))
local macro_rules | `(tactic| walk_at "sbx") => `(tactic| first | with_reducible exact Sb.refl | with_reducible exact Sb.nil | with_reducible exact Sb.left | ((with_reducible refine' Sb.cons ?h ?t); (case h => walk_at "pk"); (case t => walk_at "sbx")) | ((with_reducible refine' Sb.blk ?h ?t); (case h => walk_at "pkb"); (case t => walk_at "sbx")) | ((with_reducible refine' Sb.drop ?q); (case q => walk_at "sbx")) | ((with_reducible refine' Sb.right ?q); (case q => walk_at "sbx")))
local macro_rules | `(tactic| walk_at "hd") => `(tactic| first | assumption | exact Hd.sb (by assumption) (by walk_at "sbx"))
local macro_rules | `(tactic| walk_at "sq") => `(tactic| first
  | assumption
  | exact Hd.sqL (by assumption) (by walk_at "mem")
  | exact Hd.sqT (by assumption) (by walk_at "mem")
  | exact Hd.sqF (by assumption) (by walk_at "mem")
  | (refine .inl ?_; walk_at "sq")
  | (refine .inr ?_; walk_at "sq"))
local macro_rules | `(tactic| walk_at "at") => `(tactic| first | rfl | assumption | exact atI_nat (by assumption))
local macro_rules | `(tactic| walk_at "dn1") => `(tactic| first
  | exact Dn.int | exact Dn.str | exact Dn.non | exact Dn.bl | assumption
  | ((refine' Dn.tp ?a1 ?m1 ?l1 ?p1); (case a1 => assumption); (case m1 => walk_at "mem"); (case l1 => (simp only [List.length_cons, List.length_nil]; omega)); (case p1 => walk_at "dns"))
  | ((refine' Dn.lt ?a1 ?m1 ?l1 ?p1); (case a1 => assumption); (case m1 => walk_at "mem"); (case l1 => (simp only [List.length_cons, List.length_nil]; omega)); (case p1 => walk_at "dns")))
local macro_rules | `(tactic| walk_at "dns") => `(tactic| first | exact Paired.nil | exact Dn.ints | ((refine' Paired.cons ?a1 ?b1); (case a1 => walk_at "dn1"); (case b1 => walk_at "dns")))
local macro_rules | `(tactic| walk_at "g1") => `(tactic| first
  | ((with_reducible refine' g_ixI ?h1 ?h2 ?h3 ?_); (case h1 => assumption); (case h2 => walk_at "mem"); (case h3 => omega); intro z hz)
  | ((with_reducible refine' g_ixIT ?h1 ?h2 ?h3 ?_); (case h1 => assumption); (case h2 => walk_at "mem"); (case h3 => omega); intro z hz)
  | ((with_reducible refine' g_setI ?h1 ?h2 ?h3 ?_); (case h1 => assumption); (case h2 => walk_at "pk"); (case h3 => omega); intro H2 hh2)
  | ((with_reducible refine' w_ixL ?h1 ?h2 ?_); (case h1 => walk_at "sq"); (case h2 => walk_at "at"))
  | ((with_reducible refine' w_ixT ?h1 ?h2 ?_); (case h1 => walk_at "sq"); (case h2 => walk_at "at"))
  | ((with_reducible refine' w_ixAny ?h1 ?h2 ?_); (case h1 => walk_at "sq"); (case h2 => walk_at "at"))
  | ((with_reducible refine' c_lenA ?h1 ?_); (case h1 => walk_at "sq"))
  | ((with_reducible refine' c_isi ?t1 ?k1 ?_); (case t1 => first | exact ty_T (by walk_at "sq") | exact ty_L (by walk_at "sq")); (case k1 => walk_at "kit"))
  | ((with_reducible refine' g_lst ?h1 ?h2 ?_); (case h1 => assumption); (case h2 => walk_at "sz"); intro p H2 hh2)
  | ((with_reducible refine' g_tup ?h1 ?h2 ?_); (case h1 => assumption); (case h2 => walk_at "sz"); intro p H2 hh2)
  | ((with_reducible refine' g_dict ?h1 ?_); (case h1 => assumption); intro p H2 hh2)
  | ((with_reducible refine' g_listL ?h1 ?h2 ?_); (case h1 => assumption); (case h2 => walk_at "sq"); intro p H2 hh2)
  | ((with_reducible refine' g_listT ?h1 ?h2 ?_); (case h1 => assumption); (case h2 => walk_at "sq"); intro p H2 hh2)
  | ((with_reducible refine' g_tupL ?h1 ?h2 ?_); (case h1 => assumption); (case h2 => walk_at "sq"); intro p H2 hh2)
  | ((with_reducible refine' g_set ?h1 ?h2 ?h3 ?_); (case h1 => assumption); (case h2 => walk_at "pk"); (case h3 => first | rfl | assumption | exact Evl.ixN_nat (by first | omega | (simp only [List.length_cons, List.length_nil]; omega))); intro H2 hh2)
  | ((with_reducible refine' g_kbm ?h1 ?h2 ?_); (case h1 => assumption); (case h2 => walk_at "mem"))
  | ((with_reducible refine' g_kbm0 ?h1 ?h2 ?_); (case h1 => assumption); (case h2 => walk_at "mem"))
  | ((with_reducible refine' g_app ?h1 ?h2 ?h3 ?_); (case h1 => assumption); (case h2 => walk_at "pk"); (case h3 => walk_at "sz"); intro H2 hh2)
  | ((with_reducible refine' g_kapp ?h1 ?h2 ?h3 ?_); (case h1 => assumption); (case h2 => walk_at "pk"); (case h3 => walk_at "sz"); intro H2 hh2)
  | ((with_reducible refine' g_fld ?h1 ?h2 ?h3 ?h4 ?h5 ?_); (case h1 => assumption); (case h2 => walk_at "mem"); (case h3 => assumption); (case h4 => assumption); (case h5 => rfl))
  | ((with_reducible refine' g_sfld ?h1 ?h2 ?h3 ?h4 ?h5 ?_); (case h1 => assumption); (case h2 => walk_at "pk"); (case h3 => assumption); (case h4 => assumption); (case h5 => decide); intro H2 hh2)
  | ((with_reducible refine' g_meth ?h1 ?h2 ?h3 ?_); (case h1 => assumption); (case h2 => walk_at "mem"); (case h3 => rfl))
  | ((with_reducible refine' g_prop ?h1 ?h2 ?_); (case h1 => assumption); (case h2 => walk_at "mem"))
  | ((with_reducible refine' g_make ?h1 ?_); (case h1 => assumption); intro x H2 hh2)
  | ((with_reducible refine' g_cat ?h1 ?h2 ?h3 ?h4 ?_); (case h1 => assumption); (case h2 => walk_at "mem"); (case h3 => walk_at "mem"); (case h4 => walk_at "sz"); intro p H2 hh2)
  | ((with_reducible refine' g_inT ?h1 ?h2 ?h3 ?h4 ?h5 ?_); (case h1 => assumption); (case h2 => walk_at "mem"); (case h3 => rfl); (case h4 => rfl); (case h5 => rfl)))
local macro_rules | `(tactic| walk_at "gs") => `(tactic| repeat first | walk_at "s1" | walk_at "g1")
local macro_rules | `(tactic| walk_at "ite") => `(tactic| first
  | ((with_reducible refine' w_iteT ?h1 ?_); (case h1 => omega))
  | ((with_reducible refine' w_iteF ?h1 ?_); (case h1 => omega))
  | (with_reducible refine w_ite ?_ ?_ <;> intro hq)
  | ((with_reducible refine' w_iteNT ?h1 ?_); (case h1 => omega))
  | ((with_reducible refine' w_iteNF ?h1 ?_); (case h1 => omega))
  | (with_reducible refine w_iteN ?_ ?_ <;> intro hq))
local macro_rules | `(tactic| walk_at "go") => `(tactic| repeat' first | walk_at "s1" | walk_at "g1" | walk_at "ite")
local macro_rules | `(tactic| walk_at "g1") => `(tactic| first
  | ((with_reducible refine' g_take1 ?h1 ?h2 ?h3 ?h4 ?_); (case h1 => assumption); (case h2 => walk_at "spl"); (case h3 => omega); (case h4 => omega); intro k H2 hk1 hh2)
  | ((with_reducible refine' g_take ?h1 ?h2 ?h4 ?_); (case h1 => assumption); (case h2 => walk_at "spl"); (case h4 => omega); intro k H2 hk1 hh2)
  | ((with_reducible refine' g_betweenN ?h1 ?h2 ?h5 ?h3 ?h4 ?_); (case h1 => assumption); (case h2 => walk_at "spl"); (case h5 => omega); (case h3 => omega); (case h4 => omega); intro k H2 hk1 hk2 hh2)
  | ((with_reducible refine' g_between ?h1 ?h2 ?h3 ?h4 ?_); (case h1 => assumption); (case h2 => walk_at "spl"); (case h3 => omega); (case h4 => omega); intro k H2 hk1 hk2 hh2)
  | ((with_reducible refine' g_size ?h1 ?h2 ?h3 ?h4 ?_); (case h1 => assumption); (case h2 => walk_at "spl"); (case h3 => omega); (case h4 => omega); intro k H2 hk1 hh2)
  | ((with_reducible refine' g_word ?h1 ?h2 ?_); (case h1 => assumption); (case h2 => walk_at "spl"); intro k H2 hk1 hh2))
local macro_rules | `(tactic| walk_at "g1") => `(tactic| first | with_reducible refine w_din ?_ | with_reducible refine w_dnotin ?_ | with_reducible refine w_dget ?_ | with_reducible refine w_dput ?_ | with_reducible refine w_ddel ?_ | with_reducible refine w_dpop ?_)
section
variable {P : Program} {w : World} {K : PySem.W.Frag} {mg : Str → Option Value} {base : Heap} {aREG aOPS : Addr}
/-! ### parts of lists -/
theorem cut_hi {xs : List V} {n : Nat} : cutV xs none (some (n : Int)) = xs.take n := by
  unfold cutV
  rw [show HT.sIx xs.length 0 none = 0 from rfl, List.drop_zero, Nat.sub_zero]
  have e : HT.sIx xs.length xs.length (some (n : Int)) = min n xs.length := by
    show (if (n : Int) < 0 then ((n : Int) + (xs.length : Int)).toNat else min ((n : Int)).toNat xs.length) = min n xs.length
    rw [if_neg (by omega), Int.toNat_natCast]
  rw [e]
  exact List.take_eq_take_min.symm
theorem cut_lo {xs : List V} {n : Nat} : cutV xs (some (n : Int)) none = xs.drop n := by
  unfold cutV
  have e : HT.sIx xs.length 0 (some (n : Int)) = min n xs.length := by
    show (if (n : Int) < 0 then ((n : Int) + (xs.length : Int)).toNat else min ((n : Int)).toNat xs.length) = min n xs.length
    rw [if_neg (by omega), Int.toNat_natCast]
  rw [e, show HT.sIx xs.length xs.length none = xs.length from rfl]
  by_cases h : n ≤ xs.length
  · rw [Nat.min_eq_left h, List.take_of_length_le (by rw [List.length_drop]; exact Nat.le_refl _)]
  · rw [Nat.min_eq_right (by omega), Nat.sub_self, List.take_zero, List.drop_eq_nil_of_le (by omega)]
section
variable {K : PySem.W.Frag} {σ : L2.St} {H : Hp} {Q : VK} {L : List Cell} {a : Addr} {xs : List V} {n : Nat} {r : V → Option Int → Option Int → Hp → VK → Prop} {te t : TE} {tl th : TO} {i : Int} {QO : Option Int → Hp → Prop} {QI : Int → Prop}
theorem w_sl (h : te σ H fun x H1 => tl σ H1 fun l H2 => th σ H2 fun u H3 => r x l u H3 Q) : tSl r te tl th σ H Q := h
theorem w_part (h : t σ H fun x H1 => ∃ i, x = .int i ∧ QO (some i) H1) : tPart t σ H QO := h
theorem w_noPart (h : QO none H) : tNoPart σ H QO := h
theorem w_exI (h : QI i) : ∃ j, V.int i = .int j ∧ QI j := ⟨i, rfl, h⟩
theorem g_slHi (hh : Hd H L) (h : SqL K H a xs) (q : ∀ p H2, Hd H2 (lstC p (xs.take n) :: L) → Q (.ref p) H2) : rSlL K (.ref a) none (some (n : Int)) H Q :=
  ⟨a, xs, rfl, h, fun p hp => q p _ (hh.newL (cut_hi (xs := xs) (n := n) ▸ New.of hp))⟩
theorem g_slLo (hh : Hd H L) (h : SqL K H a xs) (q : ∀ p H2, Hd H2 (lstC p (xs.drop n) :: L) → Q (.ref p) H2) : rSlL K (.ref a) (some (n : Int)) none H Q :=
  ⟨a, xs, rfl, h, fun p hp => q p _ (hh.newL (cut_lo (xs := xs) (n := n) ▸ New.of hp))⟩
end
end
end K24
set_option Elab.async false
set_option linter.all false
set_option maxRecDepth 100000
set_option maxHeartbeats 4000000
namespace K24
open PySem PySem.Spec PyProof.Rows L2 Wk
local macro_rules | `(tactic| walk_at "u1") => `(tactic| fail "no more")
local macro_rules | `(tactic| walk_at "pos") => `(tactic| first | assumption | omega | decide | (simp only [Int.ofNat_eq_natCast] at *; omega))
local macro_rules | `(tactic| walk_at "sz") => `(tactic| first
  | (simp only [List.length_cons, List.length_nil]; decide)
  | exact Evl.sz_of (by omega)
  | exact Evl.sz_lt (by omega)
  | exact Evl.sz_of (by simp only [List.length_map, List.length_append, List.length_cons, List.length_nil, List.length_replicate]; omega)
  | exact Evl.sz_lt (by simp only [List.length_map, List.length_append, List.length_cons, List.length_nil, List.length_replicate]; omega))
local macro_rules | `(tactic| walk_at "cond") => `(tactic| first
  | exact Or.inr ⟨by decide, by decide⟩
  | (show (0 : Int) < _; first | decide | assumption | omega)
  | exact Or.inl ⟨by omega, by omega⟩
  | exact Or.inr ⟨by omega, by omega⟩
  | exact ⟨by decide, by decide, by decide⟩
  | exact log2_lt (by omega) (by omega)
  | exact ⟨by omega, by omega⟩)
local macro_rules | `(tactic| walk_at "ty") => `(tactic| first
  | exact ty_int | exact ty_bl | exact ty_str | exact ty_non
  | exact ty_L (by assumption) | exact ty_T (by assumption)
  | exact ty_L (SqL.of (by assumption)) | exact ty_T (SqT.of (by assumption)))
local macro_rules | `(tactic| walk_at "kit") => `(tactic| first
  | exact k_ii | exact k_ib | exact k_is | exact k_il | exact k_it
  | exact k_bb | exact k_bi | exact k_bs | exact k_bl | exact k_bt
  | exact k_ss | exact k_sb | exact k_si | exact k_sl | exact k_st
  | exact k_ll | exact k_lb | exact k_li | exact k_ls | exact k_lt
  | exact k_tt | exact k_tb | exact k_ti | exact k_ts | exact k_tl
  | exact k_nn | exact k_ni | exact k_ns | exact k_nl | exact k_nt)
local macro_rules | `(tactic| walk_at "s1") => `(tactic| first
  | with_reducible refine w_seq ?_
  | with_reducible refine w_set ?_
  | with_reducible refine w_op ?_
  | ((with_reducible refine' w_var ?h1 ?_); (case h1 => rfl))
  | with_reducible refine w_c ?_
  | with_reducible refine w_cb ?_
  | with_reducible refine w_cons ?_
  | with_reducible refine w_nil ?_
  | with_reducible refine w_I0 ?_
  | ((with_reducible refine' w_I ?c1 ?_); case c1 => walk_at "cond")
  | with_reducible refine w_ret ?_
  | with_reducible refine w_next ?_
  | with_reducible refine w_ifS ?_
  | with_reducible refine w_test ?_
  | with_reducible refine w_tB ?_
  | with_reducible refine w_k ?_
  | with_reducible refine w_eqI ?_
  | with_reducible refine w_neI ?_
  | with_reducible refine w_eqS ?_
  | with_reducible refine w_neS ?_
  | with_reducible refine w_and ?_
  | with_reducible refine w_or ?_
  | with_reducible refine w_not ?_
  | with_reducible refine w_andV ?_
  | with_reducible refine w_orV ?_
  | with_reducible refine w_notV ?_
  | with_reducible refine w_ifE ?_
  | with_reducible refine w_true ?_
  | with_reducible refine w_false ?_
  | with_reducible refine w_ntrue ?_
  | with_reducible refine w_nfalse ?_
  | with_reducible refine w_call ?_
  | with_reducible refine c_int ?_
  | with_reducible refine c_abs ?_
  | with_reducible refine c_max ?_
  | with_reducible refine c_min ?_
  | with_reducible refine w_drop ?_
  | with_reducible refine w_sfld ?_
  | with_reducible refine w_meth ?_
  | with_reducible refine w_make ?_
  | with_reducible refine w_prop ?_
  | with_reducible refine w_callK ?_
  | with_reducible refine w_callN ?_
  | with_reducible refine w_star ?_
  | with_reducible refine w_gcons ?_
  | with_reducible refine w_gname ?_
  | with_reducible refine w_gnil ?_
  | with_reducible refine w_retN ?_
  | with_reducible refine w_tup ?_
  | with_reducible refine w_lst ?_
  | with_reducible refine w_fld ?_
  | with_reducible refine w_bm ?_
  | with_reducible refine w_bm0 ?_
  | with_reducible refine w_forL ?_
  | with_reducible refine w_forT ?_
  | with_reducible refine w_forS ?_
  | with_reducible refine w_forR ?_
  | with_reducible refine w_lcR ?_
  | with_reducible refine w_lcL ?_
  | with_reducible refine w_lcT ?_
  | with_reducible refine w_isN ?_
  | with_reducible refine w_notN ?_
  | with_reducible refine w_asg ?_
  | with_reducible refine w_gsub ?_
  | ((with_reducible refine' w_aug ?h1 ?_); (case h1 => rfl))
  | with_reducible refine w_augS ?_
  | with_reducible refine w_ipI ?_
  | with_reducible refine w_un ?_
  | with_reducible refine w_U ?_
  | ((with_reducible refine' w_iteF ?f1 ?_); case f1 => (first | (intro h; cases h; done) | decide))
  | ((with_reducible refine' w_iteT ?f1 ?_); case f1 => rfl)
  | ((with_reducible refine' w_iteNF ?f1 ?_); case f1 => rfl)
  | ((with_reducible refine' w_iteNT ?f1 ?_); case f1 => (first | (intro h; cases h; done) | decide))
  | ((with_reducible refine' c_isi ?t1 ?k1 ?_); (case t1 => walk_at "ty"); (case k1 => walk_at "kit"))
  | ((with_reducible refine' w_eq ?e1 ?_); case e1 => rfl)
  | ((with_reducible refine' w_ne ?e1 ?_); case e1 => rfl)
  | walk_at "u1")
local macro_rules | `(tactic| walk_at "s") => `(tactic| repeat walk_at "s1")
local macro_rules | `(tactic| walk_at "mem") => `(tactic| first | with_reducible exact List.mem_cons_self .. | ((with_reducible refine' List.mem_cons_of_mem _ ?q); (case q => walk_at "mem")) | assumption | ((with_reducible refine' List.mem_append_right _ ?q); (case q => walk_at "mem")) | (exact List.mem_append_left _ (by assumption)))
local macro_rules | `(tactic| walk_at "pk") => `(tactic| first | with_reducible exact Pk.here | ((with_reducible refine' Pk.there ?q); (case q => walk_at "pk")) | ((with_reducible refine' Pk.app ?q); (case q => walk_at "pk")))
local macro_rules | `(tactic| walk_at "pkb") => `(tactic| first | with_reducible exact PkB.here | ((with_reducible refine' PkB.there ?q); (case q => walk_at "pkb")) | ((with_reducible refine' PkB.app ?q); (case q => walk_at "pkb")))
local macro_rules | `(tactic| walk_at "spl") => `(tactic| first | with_reducible exact Spl.nil | ((with_reducible refine' Spl.cons ?h ?t); (case h => walk_at "pk"); (case t => walk_at "spl")) | ((with_reducible refine' Spl.blk ?h ?t); (case h => walk_at "pkb"); (case t => walk_at "spl")))
local macro_rules | `(tactic| walk_at "sbx") => `(tactic| first | with_reducible exact Sb.refl | with_reducible exact Sb.nil | with_reducible exact Sb.left | ((with_reducible refine' Sb.cons ?h ?t); (case h => walk_at "pk"); (case t => walk_at "sbx")) | ((with_reducible refine' Sb.blk ?h ?t); (case h => walk_at "pkb"); (case t => walk_at "sbx")) | ((with_reducible refine' Sb.drop ?q); (case q => walk_at "sbx")) | ((with_reducible refine' Sb.right ?q); (case q => walk_at "sbx")))
local macro_rules | `(tactic| walk_at "hd") => `(tactic| first | assumption | exact Hd.sb (by assumption) (by walk_at "sbx"))
local macro_rules | `(tactic| walk_at "sq") => `(tactic| first
  | assumption
  | exact Hd.sqL (by assumption) (by walk_at "mem")
  | exact Hd.sqT (by assumption) (by walk_at "mem")
  | exact Hd.sqF (by assumption) (by walk_at "mem")
  | (refine .inl ?_; walk_at "sq")
  | (refine .inr ?_; walk_at "sq"))
local macro_rules | `(tactic| walk_at "at") => `(tactic| first | rfl | assumption | exact atI_nat (by assumption))
local macro_rules | `(tactic| walk_at "dn1") => `(tactic| first
  | exact Dn.int | exact Dn.str | exact Dn.non | exact Dn.bl | assumption
  | ((refine' Dn.tp ?a1 ?m1 ?l1 ?p1); (case a1 => assumption); (case m1 => walk_at "mem"); (case l1 => (simp only [List.length_cons, List.length_nil]; omega)); (case p1 => walk_at "dns"))
  | ((refine' Dn.lt ?a1 ?m1 ?l1 ?p1); (case a1 => assumption); (case m1 => walk_at "mem"); (case l1 => (simp only [List.length_cons, List.length_nil]; omega)); (case p1 => walk_at "dns")))
local macro_rules | `(tactic| walk_at "dns") => `(tactic| first | exact Paired.nil | exact Dn.ints | ((refine' Paired.cons ?a1 ?b1); (case a1 => walk_at "dn1"); (case b1 => walk_at "dns")))
local macro_rules | `(tactic| walk_at "g1") => `(tactic| first
  | ((with_reducible refine' g_ixI ?h1 ?h2 ?h3 ?_); (case h1 => assumption); (case h2 => walk_at "mem"); (case h3 => omega); intro z hz)
  | ((with_reducible refine' g_ixIT ?h1 ?h2 ?h3 ?_); (case h1 => assumption); (case h2 => walk_at "mem"); (case h3 => omega); intro z hz)
  | ((with_reducible refine' g_setI ?h1 ?h2 ?h3 ?_); (case h1 => assumption); (case h2 => walk_at "pk"); (case h3 => omega); intro H2 hh2)
  | ((with_reducible refine' w_ixL ?h1 ?h2 ?_); (case h1 => walk_at "sq"); (case h2 => walk_at "at"))
  | ((with_reducible refine' w_ixT ?h1 ?h2 ?_); (case h1 => walk_at "sq"); (case h2 => walk_at "at"))
  | ((with_reducible refine' w_ixAny ?h1 ?h2 ?_); (case h1 => walk_at "sq"); (case h2 => walk_at "at"))
  | ((with_reducible refine' c_lenA ?h1 ?_); (case h1 => walk_at "sq"))
  | ((with_reducible refine' c_isi ?t1 ?k1 ?_); (case t1 => first | exact ty_T (by walk_at "sq") | exact ty_L (by walk_at "sq")); (case k1 => walk_at "kit"))
  | ((with_reducible refine' g_lst ?h1 ?h2 ?_); (case h1 => assumption); (case h2 => walk_at "sz"); intro p H2 hh2)
  | ((with_reducible refine' g_tup ?h1 ?h2 ?_); (case h1 => assumption); (case h2 => walk_at "sz"); intro p H2 hh2)
  | ((with_reducible refine' g_dict ?h1 ?_); (case h1 => assumption); intro p H2 hh2)
  | ((with_reducible refine' g_listL ?h1 ?h2 ?_); (case h1 => assumption); (case h2 => walk_at "sq"); intro p H2 hh2)
  | ((with_reducible refine' g_listT ?h1 ?h2 ?_); (case h1 => assumption); (case h2 => walk_at "sq"); intro p H2 hh2)
  | ((with_reducible refine' g_tupL ?h1 ?h2 ?_); (case h1 => assumption); (case h2 => walk_at "sq"); intro p H2 hh2)
  | ((with_reducible refine' g_set ?h1 ?h2 ?h3 ?_); (case h1 => assumption); (case h2 => walk_at "pk"); (case h3 => first | rfl | assumption | exact Evl.ixN_nat (by first | omega | (simp only [List.length_cons, List.length_nil]; omega))); intro H2 hh2)
  | ((with_reducible refine' g_kbm ?h1 ?h2 ?_); (case h1 => assumption); (case h2 => walk_at "mem"))
  | ((with_reducible refine' g_kbm0 ?h1 ?h2 ?_); (case h1 => assumption); (case h2 => walk_at "mem"))
  | ((with_reducible refine' g_app ?h1 ?h2 ?h3 ?_); (case h1 => assumption); (case h2 => walk_at "pk"); (case h3 => walk_at "sz"); intro H2 hh2)
  | ((with_reducible refine' g_kapp ?h1 ?h2 ?h3 ?_); (case h1 => assumption); (case h2 => walk_at "pk"); (case h3 => walk_at "sz"); intro H2 hh2)
  | ((with_reducible refine' g_fld ?h1 ?h2 ?h3 ?h4 ?h5 ?_); (case h1 => assumption); (case h2 => walk_at "mem"); (case h3 => assumption); (case h4 => assumption); (case h5 => rfl))
  | ((with_reducible refine' g_sfld ?h1 ?h2 ?h3 ?h4 ?h5 ?_); (case h1 => assumption); (case h2 => walk_at "pk"); (case h3 => assumption); (case h4 => assumption); (case h5 => decide); intro H2 hh2)
  | ((with_reducible refine' g_meth ?h1 ?h2 ?h3 ?_); (case h1 => assumption); (case h2 => walk_at "mem"); (case h3 => rfl))
  | ((with_reducible refine' g_prop ?h1 ?h2 ?_); (case h1 => assumption); (case h2 => walk_at "mem"))
  | ((with_reducible refine' g_make ?h1 ?_); (case h1 => assumption); intro x H2 hh2)
  | ((with_reducible refine' g_cat ?h1 ?h2 ?h3 ?h4 ?_); (case h1 => assumption); (case h2 => walk_at "mem"); (case h3 => walk_at "mem"); (case h4 => walk_at "sz"); intro p H2 hh2)
  | ((with_reducible refine' g_inT ?h1 ?h2 ?h3 ?h4 ?h5 ?_); (case h1 => assumption); (case h2 => walk_at "mem"); (case h3 => rfl); (case h4 => rfl); (case h5 => rfl)))
local macro_rules | `(tactic| walk_at "gs") => `(tactic| repeat first | walk_at "s1" | walk_at "g1")
local macro_rules | `(tactic| walk_at "ite") => `(tactic| first
  | ((with_reducible refine' w_iteT ?h1 ?_); (case h1 => omega))
  | ((with_reducible refine' w_iteF ?h1 ?_); (case h1 => omega))
  | (with_reducible refine w_ite ?_ ?_ <;> intro hq)
  | ((with_reducible refine' w_iteNT ?h1 ?_); (case h1 => omega))
  | ((with_reducible refine' w_iteNF ?h1 ?_); (case h1 => omega))
  | (with_reducible refine w_iteN ?_ ?_ <;> intro hq))
local macro_rules | `(tactic| walk_at "go") => `(tactic| repeat' first | walk_at "s1" | walk_at "g1" | walk_at "ite")
local macro_rules | `(tactic| walk_at "g1") => `(tactic| first | with_reducible refine w_din ?_ | with_reducible refine w_dnotin ?_ | with_reducible refine w_dget ?_ | with_reducible refine w_dput ?_ | with_reducible refine w_ddel ?_ | with_reducible refine w_dpop ?_)
section
variable {P : Program} {w : World} {K : PySem.W.Frag} {mg : Str → Option Value} {base : Heap} {aREG aOPS : Addr}
local macro_rules | `(tactic| walk_at "g1") => `(tactic| first | with_reducible refine w_din ?_ | with_reducible refine w_dnotin ?_ | with_reducible refine w_dget ?_ | with_reducible refine w_dput ?_ | with_reducible refine w_ddel ?_ | with_reducible refine w_dpop ?_)
theorem hdCast {c c' : Cell} {L : List Cell} {H : Hp} (h : Hd H (c :: L)) (e : c = c') : Hd H (c' :: L) := e ▸ h
/-- a member: its base and lent priority, whether it is ready, its age -/
structure Mb where
  base : Nat
  lent : Nat
  ready : Bool
  age : Nat
abbrev mbV (m : Mb) : List V := [.int m.base, .int m.lent, .bl m.ready, .int m.age]
abbrev AgS := Nat → Option Mb
structure AgC (K : PySem.W.Frag) (C : Addr) : Prop where
  cl : Cls K C
  nm : NoAttr K C "_members"
abbrev agI (o C d : Addr) : Cell := insC o C [("_members", .ref d)]
/-- the object at o has the members S; it is the block Z -/
def AgB (C o : Addr) (S : AgS) (Z : List Cell) : Prop := ∃ d Z1, TabB mbV 8 d S Z1 ∧ Z = agI o C d :: Z1
section
variable {C : Addr}
theorem AgB.ins {o : Addr} {S : AgS} {Z : List Cell} (b : AgB C o S Z) : ∃ fs, insC o C fs ∈ Z ∧ fs.length = 1 := by
  obtain ⟨d, Z1, _, rfl⟩ := b
  exact ⟨_, List.mem_cons_self .., rfl⟩
/-- one member, to be read or changed -/
theorem AgB.open {o : Addr} {S : AgS} {Z : List Cell} {k : Nat} {m : Mb} (b : AgB C o S Z) (h : S k = some m) : ∃ (d ad : Addr) (kv : List (Key × V)) (X : List Cell), valV kv (.inl (k : Int)) = some (.ref ad) ∧ (∀ H R, Hd H (Z ++ R) ↔ Hd H (agI o C d :: dctC d kv :: lstC ad (mbV m) :: (X ++ R))) ∧
    ∀ m', ∃ Z', AgB C o (upS S k (some m')) Z' ∧ ∀ H R, Hd H (agI o C d :: dctC d kv :: lstC ad (mbV m') :: (X ++ R)) → Hd H (Z' ++ R) := by
  obtain ⟨d, Z1, tb, rfl⟩ := b
  obtain ⟨ad, kv, X, hv, op, cl⟩ := tb.open h
  have e1 : ∀ H R, Hd H (agI o C d :: Z1 ++ R) ↔ Hd H (Z1 ++ (agI o C d :: R)) := fun H R => ⟨fun h => h.perm List.perm_middle.symm, fun h => h.perm List.perm_middle⟩
  have e2 : ∀ (H : Hp) (x : List V) R, Hd H (dctC d kv :: lstC ad x :: (X ++ (agI o C d :: R))) ↔ Hd H (agI o C d :: dctC d kv :: lstC ad x :: (X ++ R)) := fun H x R => by
    have p : (dctC d kv :: lstC ad x :: (X ++ (agI o C d :: R))).Perm (agI o C d :: dctC d kv :: lstC ad x :: (X ++ R)) := List.perm_middle (l₁ := dctC d kv :: lstC ad x :: X)
    exact ⟨fun h => h.perm p, fun h => h.perm p.symm⟩
  refine ⟨d, ad, kv, X, hv, fun H R => ?_, fun m' => ?_⟩
  · rw [e1, op, e2]
  · obtain ⟨Z', tb', cl'⟩ := cl m'
    refine ⟨agI o C d :: Z', ⟨d, Z', tb', rfl⟩, fun H R hh => ?_⟩
    exact (cl' H _ ((e2 H _ R).mpr hh)).perm List.perm_middle
def sp_agI (C : Addr) : Sp := fun vs H Q _ => ∃ (o : Addr) (R : List Cell), vs = [.ref o] ∧ Hd H (insC o C [] :: R) ∧ ∀ Z H', AgB C o (fun _ => none) Z → Hd H' (Z ++ R) → Q .non H'
theorem c_agI {f : Addr} {fd : FuncData} (T : Txt K mg aREG aOPS) (L : AgC K C) (d : DefM K "__init__" "Ages.__init__" s_Ages____init__ [] f fd) (M : Mk K C f) (hm : mg "Ages" = some (.ref C)) : C8.Mak P w K mg base 1 "Ages" C (sp_agI C) [] := by
  refine mkI (dvs' := []) d M hm sc_Ages____init__ ⟨[], .nil, FunD.bindsN (show FunD K "__init__" "Ages.__init__" (defArgs s_Ages____init__) (defBody s_Ages____init__) (defScope s_Ages____init__) [] [] f fd from d) fun _ _ _ _ _ _ us hl => match us, hl with | [_], _ => rfl⟩ (fun vs H Q E h => ?_) (fun f cdv A outer s H vs Q E hr h => ?_)
  · obtain ⟨o, R, rfl, _⟩ := h
    rfl
  · obtain ⟨o, R, rfl, hh, q⟩ := h
    refine ⟨_, (pss_one (ps_fld (pv 0) pe_dnewK rfl)), ?_⟩
    have hc := L.cl
    have nm := L.nm
    walk_at "gs"
    rename_i dd _ _ H2 h2
    exact q (agI o C dd :: [dctC dd []]) H2 ⟨dd, [dctC dd []], TabB.nil 8 dd, rfl⟩ h2
def sp_askM (C : Addr) : Sp := fun vs H Q _ => ∃ (o : Addr) (k : Nat) (m : Mb) (S : AgS) (Z R : List Cell), vs = [.ref o, .int k] ∧ AgB C o S Z ∧ S k = some m ∧ Hd H (Z ++ R) ∧ Q .non H
theorem c_askM (T : Txt K mg aREG aOPS) (L : AgC K C) (d : MetAt K C "_ask_member" "Ages._ask_member" s_Ages___ask_member) (c_ask_range : C8.Cal P w K mg base 3 "ask_range" (sp_ask K) []) : C8.Met P w K mg base 4 C "_ask_member" (sp_askM C) [] := by
  refine mkM d sc_Ages___ask_member (fun _ _ _ _ _ _ us hl => match us, hl with | [_, _], _ => rfl) (fun vs H Q E h => ?_) (fun fa cdv A outer s H vs Q E hr h => ?_)
  · obtain ⟨o, k, m, S, Z, R, rfl, _⟩ := h
    rfl
  · obtain ⟨o, k, m, S, Z, R, rfl, hb, hk, hh, q⟩ := h
    have hu : (A.deeper (envOfC "Ages._ask_member" (defScope s_Ages___ask_member) s.heap.objs.size fa cdv)).units + 1 < cLine := by have := hr.un; omega
    refine ⟨_, (pss_cons (ps_expr (C8.pe_c c_ask_range hr (by first | decide | omega) rfl (pa_cons pe_str (pa_cons (pv 1) (pa_cons pe_int (pa_cons pe_int pa_nil))))))
  (pss_one (ps_if (pt_cmp (pc_dnotin hu (pv 1) (pe_fld (pv 0) rfl)))
    (pss_one ps_never)
    pss_nil))), ?_⟩
    have hc := L.cl
    have nm := L.nm
    obtain ⟨d, ad, kv, X, hv, op, cl⟩ := hb.open hk
    have hlt : k < 8 := by
      obtain ⟨d, Z1, tb, _⟩ := hb
      exact tb.lt (by rw [hk]; rfl)
    have h1 := (op _ _).mp hh
    walk_at "gs"
    refine u_ask ⟨by omega, by omega⟩ ?_
    walk_at "gs"
    refine g_dnotin (k := .inl (k : Int)) h1 (by walk_at "mem") rfl (b := true) (by rw [hv]; rfl) ?_
    walk_at "gs"
    exact q
/-- the greater priority; with the age -/
def effI (m : Mb) : Int := if (m.lent : Int) > (m.base : Int) then (m.lent : Int) else (m.base : Int)
def stdI (m : Mb) : Int := effI m + m.age
def sp_mbI (C : Addr) (f : Mb → Int) : Sp := fun vs H Q _ => ∃ (o : Addr) (k : Nat) (m : Mb) (S : AgS) (Z R : List Cell), vs = [.ref o, .int k] ∧ AgB C o S Z ∧ S k = some m ∧ Hd H (Z ++ R) ∧ Q (.int (f m)) H
theorem g_mbI {f : Mb → Int} {o : Addr} {k : Nat} {m : Mb} {S : AgS} {Z R : List Cell} {H : Hp} {Q : VK} {E : XK} (b : AgB C o S Z) (h : S k = some m) (hh : Hd H (Z ++ R)) (q : Q (.int (f m)) H) : sp_mbI C f [.ref o, .int k] H Q E := ⟨o, k, m, S, Z, R, rfl, b, h, hh, q⟩
theorem c_eff (T : Txt K mg aREG aOPS) (L : AgC K C) (d : MetAt K C "_effective" "Ages._effective" s_Ages___effective) : C8.Met P w K mg base 1 C "_effective" (sp_mbI C effI) [] := by
  refine mkM d sc_Ages___effective (fun _ _ _ _ _ _ us hl => match us, hl with | [_, _], _ => rfl) (fun vs H Q E h => ?_) (fun fa cdv A outer s H vs Q E hr h => ?_)
  · obtain ⟨o, k, m, S, Z, R, rfl, _⟩ := h
    rfl
  · obtain ⟨o, k, m, S, Z, R, rfl, hb, hk, hh, q⟩ := h
    have hu : (A.deeper (envOfC "Ages._effective" (defScope s_Ages___effective) s.heap.objs.size fa cdv)).units + 1 < cLine := by have := hr.un; omega
    refine ⟨_, (pss_one (ps_ret (pe_callB (Wk.b_max rfl) (by rfl) T.b_max (by decide +kernel) (pa_cons (pe_ix ix_list (pe_dget hu (pe_fld (pv 0) rfl) (pv 1) (fun _ _ => rfl)) pe_int (fun _ _ => rfl)) (pa_cons (pe_ix ix_list (pe_dget hu (pe_fld (pv 0) rfl) (pv 1) (fun _ _ => rfl)) pe_int (fun _ _ => rfl)) pa_nil))))), ?_⟩
    have hc := L.cl
    have nm := L.nm
    obtain ⟨d, ad, kv, X, hv, op, cl⟩ := hb.open hk
    have h1 := (op _ _).mp hh
    walk_at "gs"
    refine g_dget (k := .inl (k : Int)) h1 (by walk_at "mem") rfl hv ?_
    walk_at "gs"
    refine g_dget (k := .inl (k : Int)) h1 (by walk_at "mem") rfl hv ?_
    walk_at "gs"
    exact q
theorem b_std (T : Txt K mg aREG aOPS) (L : AgC K C) (c_Ages__effective : C8.Met P w K mg base 1 C "_effective" (sp_mbI C effI) []) (fa : Addr) (cdv : Value) (A : Around) (outer : List Env) (s : Shared) (H : Hp) (vs : List V) (Q : VK) (E : XK) (hr : Room 2 (A.deeper (envOfC "Ages._standing" (defScope s_Ages___standing) s.heap.objs.size fa cdv))) (h : sp_mbI C stdI vs H Q E) :
    ∃ t, PSs (cxOf C8.CX0 P w K mg base nm_Ages___standing "Ages._standing" (defScope s_Ages___standing) fa cdv A outer s H E).nox (defBody s_Ages___standing) t ∧ t { nx := fun _ H' => Q .non H', rt := Q } (L2.start nm_Ages___standing vs) H := by
  · obtain ⟨o, k, m, S, Z, R, rfl, hb, hk, hh, q⟩ := h
    have hu : (A.deeper (envOfC "Ages._standing" (defScope s_Ages___standing) s.heap.objs.size fa cdv)).units + 1 < cLine := by have := hr.un; omega
    refine ⟨_, (pss_one (ps_ret (pe_op op_add (C8.pe_mt c_Ages__effective hr (by first | decide | omega) (pv 0) (pa_cons (pv 1) pa_nil)) (pe_ix ix_list (pe_dget hu (pe_fld (pv 0) rfl) (pv 1) (fun _ _ => rfl)) pe_int (fun _ _ => rfl))))), ?_⟩
    have hc := L.cl
    have nm := L.nm
    obtain ⟨d, ad, kv, X, hv, op, cl⟩ := hb.open hk
    have h1 := (op _ _).mp hh
    walk_at "gs"
    refine g_mbI hb hk hh ?_
    walk_at "gs"
    refine g_dget (k := .inl (k : Int)) h1 (by walk_at "mem") rfl hv ?_
    walk_at "gs"
    exact q
theorem f_std {g : Addr} {fd : FuncData} (T : Txt K mg aREG aOPS) (L : AgC K C) (F : DefM K "_standing" "Ages._standing" s_Ages___standing [] g fd) (c_Ages__effective : C8.Met P w K mg base 1 C "_effective" (sp_mbI C effI) []) : FnR P w K mg base C8.CX0 3 g (sp_mbI C stdI) := by
  have F : FunD K "_standing" "Ages._standing" (defArgs s_Ages___standing) (defBody s_Ages___standing) (defScope s_Ages___standing) [] [] g fd := F
  have FO : FnOk P w K mg base C8.CX0 3 g fd ["self", "pid"] (sp_mbI C stdI) := F.ok sc_Ages___standing (fun vs H Q E h => by obtain ⟨o, k, m, S, Z, R, rfl, _⟩ := h; rfl) fun cdv A outer s H vs Q E hr hsp => let ⟨t, h, q⟩ := b_std T L c_Ages__effective g cdv A outer s H vs Q E hr hsp; ⟨t, h.nox, q⟩
  have b : Binds K fd ["self", "pid"] [] := FunD.bindsN F fun _ _ _ _ _ _ us hl => match us, hl with | [_, _], _ => rfl
  exact (FO.raw b .nil).imp fun vs H Q E h => by rw [List.append_nil]; exact h
theorem c_prio (T : Txt K mg aREG aOPS) (L : AgC K C) (d : MetAt K C "priority" "Ages.priority" s_Ages__priority) (c_Ages__ask_member : C8.Met P w K mg base 4 C "_ask_member" (sp_askM C) []) (c_Ages__effective : C8.Met P w K mg base 1 C "_effective" (sp_mbI C effI) []) : C8.Met P w K mg base 5 C "priority" (sp_mbI C effI) [] := by
  refine mkM d sc_Ages__priority (fun _ _ _ _ _ _ us hl => match us, hl with | [_, _], _ => rfl) (fun vs H Q E h => ?_) (fun fa cdv A outer s H vs Q E hr h => ?_)
  · obtain ⟨o, k, m, S, Z, R, rfl, _⟩ := h
    rfl
  · obtain ⟨o, k, m, S, Z, R, rfl, hb, hk, hh, q⟩ := h
    refine ⟨_, (pss_cons (ps_expr (C8.pe_mt c_Ages__ask_member hr (by first | decide | omega) (pv 0) (pa_cons (pv 1) pa_nil)))
  (pss_one (ps_ret (C8.pe_mt c_Ages__effective hr (by first | decide | omega) (pv 0) (pa_cons (pv 1) pa_nil))))), ?_⟩
    obtain ⟨d, ad, kv, X, hv, op, cl⟩ := hb.open hk
    have h1 := (op _ _).mp hh
    walk_at "gs"
    refine ⟨o, k, m, S, Z, R, rfl, hb, hk, hh, ?_⟩
    walk_at "gs"
    exact g_mbI hb hk hh q
theorem c_age (T : Txt K mg aREG aOPS) (L : AgC K C) (d : MetAt K C "age" "Ages.age" s_Ages__age) (c_Ages__ask_member : C8.Met P w K mg base 4 C "_ask_member" (sp_askM C) []) : C8.Met P w K mg base 5 C "age" (sp_mbI C fun m => m.age) [] := by
  refine mkM d sc_Ages__age (fun _ _ _ _ _ _ us hl => match us, hl with | [_, _], _ => rfl) (fun vs H Q E h => ?_) (fun fa cdv A outer s H vs Q E hr h => ?_)
  · obtain ⟨o, k, m, S, Z, R, rfl, _⟩ := h
    rfl
  · obtain ⟨o, k, m, S, Z, R, rfl, hb, hk, hh, q⟩ := h
    have hu : (A.deeper (envOfC "Ages.age" (defScope s_Ages__age) s.heap.objs.size fa cdv)).units + 1 < cLine := by have := hr.un; omega
    refine ⟨_, (pss_cons (ps_expr (C8.pe_mt c_Ages__ask_member hr (by first | decide | omega) (pv 0) (pa_cons (pv 1) pa_nil)))
  (pss_one (ps_ret (pe_ix ix_list (pe_dget hu (pe_fld (pv 0) rfl) (pv 1) (fun _ _ => rfl)) pe_int (fun _ _ => rfl))))), ?_⟩
    have hc := L.cl
    have nm := L.nm
    obtain ⟨d, ad, kv, X, hv, op, cl⟩ := hb.open hk
    have h1 := (op _ _).mp hh
    walk_at "gs"
    refine ⟨o, k, m, S, Z, R, rfl, hb, hk, hh, ?_⟩
    walk_at "gs"
    refine g_dget (k := .inl (k : Int)) h1 (by walk_at "mem") rfl hv ?_
    walk_at "gs"
    exact q
/-! ### deeds -/
def sp_deed (C : Addr) (f : Mb → Mb) : Sp := fun vs H Q _ => ∃ (o : Addr) (k : Nat) (m : Mb) (S : AgS) (Z R : List Cell), vs = [.ref o, .int k] ∧ AgB C o S Z ∧ S k = some m ∧ Hd H (Z ++ R) ∧ ∀ Z' H', AgB C o (upS S k (some (f m))) Z' → Hd H' (Z' ++ R) → Q .non H'
def wakeM (m : Mb) : Mb := { m with ready := true }
def sleepM (m : Mb) : Mb := { m with ready := false, age := 0 }
theorem c_wake (T : Txt K mg aREG aOPS) (L : AgC K C) (d : MetAt K C "wake" "Ages.wake" s_Ages__wake) (c_Ages__ask_member : C8.Met P w K mg base 4 C "_ask_member" (sp_askM C) []) : C8.Met P w K mg base 5 C "wake" (sp_deed C wakeM) [] := by
  refine mkM d sc_Ages__wake (fun _ _ _ _ _ _ us hl => match us, hl with | [_, _], _ => rfl) (fun vs H Q E h => ?_) (fun fa cdv A outer s H vs Q E hr h => ?_)
  · obtain ⟨o, k, m, S, Z, R, rfl, _⟩ := h
    rfl
  · obtain ⟨o, k, m, S, Z, R, rfl, hb, hk, hh, q⟩ := h
    have hu : (A.deeper (envOfC "Ages.wake" (defScope s_Ages__wake) s.heap.objs.size fa cdv)).units + 1 < cLine := by have := hr.un; omega
    refine ⟨_, (pss_cons (ps_expr (C8.pe_mt c_Ages__ask_member hr (by first | decide | omega) (pv 0) (pa_cons (pv 1) pa_nil)))
  (pss_one (ps_asg pe_bl (pg_sub (pe_dget hu (pe_fld (pv 0) rfl) (pv 1) (fun _ _ => rfl)) pe_int set_list)))), ?_⟩
    have hc := L.cl
    have nm := L.nm
    obtain ⟨d, ad, kv, X, hv, op, cl⟩ := hb.open hk
    have h1 := (op _ _).mp hh
    walk_at "gs"
    refine ⟨o, k, m, S, Z, R, rfl, hb, hk, hh, ?_⟩
    walk_at "gs"
    refine g_dget (k := .inl (k : Int)) h1 (by walk_at "mem") rfl hv ?_
    walk_at "gs"
    rename_i H2 h2
    obtain ⟨Z', hb', cl'⟩ := cl (wakeM m)
    exact q Z' H2 hb' (cl' _ _ (Hd.sb (hdCast (c' := lstC ad (mbV (wakeM m))) h2 rfl) (by walk_at "sbx")))
theorem c_sleep (T : Txt K mg aREG aOPS) (L : AgC K C) (d : MetAt K C "sleep" "Ages.sleep" s_Ages__sleep) (c_Ages__ask_member : C8.Met P w K mg base 4 C "_ask_member" (sp_askM C) []) : C8.Met P w K mg base 5 C "sleep" (sp_deed C sleepM) [] := by
  refine mkM d sc_Ages__sleep (fun _ _ _ _ _ _ us hl => match us, hl with | [_, _], _ => rfl) (fun vs H Q E h => ?_) (fun fa cdv A outer s H vs Q E hr h => ?_)
  · obtain ⟨o, k, m, S, Z, R, rfl, _⟩ := h
    rfl
  · obtain ⟨o, k, m, S, Z, R, rfl, hb, hk, hh, q⟩ := h
    have hu : (A.deeper (envOfC "Ages.sleep" (defScope s_Ages__sleep) s.heap.objs.size fa cdv)).units + 1 < cLine := by have := hr.un; omega
    refine ⟨_, (pss_cons (ps_expr (C8.pe_mt c_Ages__ask_member hr (by first | decide | omega) (pv 0) (pa_cons (pv 1) pa_nil)))
  (pss_cons (ps_asg pe_bl (pg_sub (pe_dget hu (pe_fld (pv 0) rfl) (pv 1) (fun _ _ => rfl)) pe_int set_list))
  (pss_one (ps_asg pe_int (pg_sub (pe_dget hu (pe_fld (pv 0) rfl) (pv 1) (fun _ _ => rfl)) pe_int set_list))))), ?_⟩
    have hc := L.cl
    have nm := L.nm
    obtain ⟨d, ad, kv, X, hv, op, cl⟩ := hb.open hk
    have h1 := (op _ _).mp hh
    walk_at "gs"
    refine ⟨o, k, m, S, Z, R, rfl, hb, hk, hh, ?_⟩
    walk_at "gs"
    refine g_dget (k := .inl (k : Int)) h1 (by walk_at "mem") rfl hv ?_
    walk_at "gs"
    rename_i H2 h2
    refine g_dget (k := .inl (k : Int)) h2 (by walk_at "mem") rfl hv ?_
    walk_at "gs"
    rename_i H3 h3
    obtain ⟨Z', hb', cl'⟩ := cl (sleepM m)
    exact q Z' H3 hb' (cl' _ _ (Hd.sb (hdCast (c' := lstC ad (mbV (sleepM m))) h3 rfl) (by walk_at "sbx")))
def sp_lend (C : Addr) : Sp := fun vs H Q _ => ∃ (o : Addr) (k p : Nat) (m : Mb) (S : AgS) (Z R : List Cell), vs = [.ref o, .int k, .int p] ∧ p ≤ 7 ∧ AgB C o S Z ∧ S k = some m ∧ Hd H (Z ++ R) ∧ ∀ Z' H', AgB C o (upS S k (some { m with lent := p })) Z' → Hd H' (Z' ++ R) → Q .non H'
theorem AgB.lt {o : Addr} {S : AgS} {Z : List Cell} {k : Nat} {m : Mb} (b : AgB C o S Z) (h : S k = some m) : k < 8 := by
  obtain ⟨d, Z1, tb, _⟩ := b
  exact tb.lt (by rw [h]; rfl)
theorem b_lend (T : Txt K mg aREG aOPS) (L : AgC K C) (c_ask_range : C8.Cal P w K mg base 3 "ask_range" (sp_ask K) []) (c_Ages__ask_member : C8.Met P w K mg base 4 C "_ask_member" (sp_askM C) []) (fa : Addr) (cdv : Value) (A : Around) (outer : List Env) (s : Shared) (H : Hp) (vs : List V) (Q : VK) (E : XK) (hr : Room 4 (A.deeper (envOfC "Ages.lend" (defScope s_Ages__lend) s.heap.objs.size fa cdv))) (h : sp_lend C vs H Q E) :
    ∃ t, PSs (cxOf C8.CX0 P w K mg base nm_Ages__lend "Ages.lend" (defScope s_Ages__lend) fa cdv A outer s H E).nox (defBody s_Ages__lend) t ∧ t { nx := fun _ H' => Q .non H', rt := Q } (L2.start nm_Ages__lend vs) H := by
  · obtain ⟨o, k, p, m, S, Z, R, rfl, hp, hb, hk, hh, q⟩ := h
    have hu : (A.deeper (envOfC "Ages.lend" (defScope s_Ages__lend) s.heap.objs.size fa cdv)).units + 1 < cLine := by have := hr.un; omega
    refine ⟨_, (pss_cons (ps_expr (C8.pe_c c_ask_range hr (by first | decide | omega) rfl (pa_cons pe_str (pa_cons (pv 1) (pa_cons pe_int (pa_cons pe_int pa_nil))))))
  (pss_cons (ps_expr (C8.pe_c c_ask_range hr (by first | decide | omega) rfl (pa_cons pe_str (pa_cons (pv 2) (pa_cons pe_int (pa_cons pe_int pa_nil))))))
  (pss_cons (ps_expr (C8.pe_mt c_Ages__ask_member hr (by first | decide | omega) (pv 0) (pa_cons (pv 1) pa_nil)))
  (pss_one (ps_asg (pv 2) (pg_sub (pe_dget hu (pe_fld (pv 0) rfl) (pv 1) (fun _ _ => rfl)) pe_int set_list)))))), ?_⟩
    have hc := L.cl
    have nm := L.nm
    have hlt := hb.lt hk
    obtain ⟨d, ad, kv, X, hv, op, cl⟩ := hb.open hk
    have h1 := (op _ _).mp hh
    walk_at "gs"
    refine u_ask ⟨by omega, by omega⟩ ?_
    walk_at "gs"
    refine u_ask ⟨by omega, by omega⟩ ?_
    walk_at "gs"
    refine ⟨o, k, m, S, Z, R, rfl, hb, hk, hh, ?_⟩
    walk_at "gs"
    refine g_dget (k := .inl (k : Int)) h1 (by walk_at "mem") rfl hv ?_
    walk_at "gs"
    rename_i H2 h2
    obtain ⟨Z', hb', cl'⟩ := cl { m with lent := p }
    exact q Z' H2 hb' (cl' _ _ (Hd.sb (hdCast (c' := lstC ad (mbV { m with lent := p })) h2 rfl) (by walk_at "sbx")))
theorem len_lend {vs : List V} {H : Hp} {Q : VK} {E : XK} (h : sp_lend C vs H Q E) : vs.length = 3 := by obtain ⟨o, k, p, m, S, Z, R, rfl, _⟩ := h; rfl
theorem c_lend1 {f : Addr} {fd : FuncData} (T : Txt K mg aREG aOPS) (L : AgC K C) (F : DefM K "lend" "Ages.lend" s_Ages__lend [.int 0] f fd) (hm : Meth K C "lend" f) (c_ask_range : C8.Cal P w K mg base 3 "ask_range" (sp_ask K) []) (c_Ages__ask_member : C8.Met P w K mg base 4 C "_ask_member" (sp_askM C) []) : C8.Met P w K mg base 5 C "lend" (sp_lend C) [.int 0] := by
  have F : FunD K "lend" "Ages.lend" (defArgs s_Ages__lend) (defBody s_Ages__lend) (defScope s_Ages__lend) [.int 0] [] f fd := F
  obtain ⟨ds, r, b⟩ := F.binds1 (ps := ["self", "pid", "priority"]) 2 0 (by simp) rfl fun T kV doc pm an cdv ct us its h1 h2 => match us, its, h1, h2 with | [_, _], [_], _, _ => ⟨_, rfl, rfl⟩
  exact ⟨f, fd, _, ds, L.cl, hm, F.ok sc_Ages__lend (fun vs H Q E h => len_lend h) (fun cdv A outer s H vs Q E hr hsp => let ⟨t, h, q⟩ := b_lend T L c_ask_range c_Ages__ask_member f cdv A outer s H vs Q E hr hsp; ⟨t, h.nox, q⟩), b, r⟩
theorem c_lend2 {f : Addr} {fd : FuncData} (T : Txt K mg aREG aOPS) (L : AgC K C) (F : DefM K "lend" "Ages.lend" s_Ages__lend [.int 0] f fd) (hm : Meth K C "lend" f) (c_ask_range : C8.Cal P w K mg base 3 "ask_range" (sp_ask K) []) (c_Ages__ask_member : C8.Met P w K mg base 4 C "_ask_member" (sp_askM C) []) : C8.Met P w K mg base 5 C "lend" (sp_lend C) [] := by
  have F : FunD K "lend" "Ages.lend" (defArgs s_Ages__lend) (defBody s_Ages__lend) (defScope s_Ages__lend) [.int 0] [] f fd := F
  obtain ⟨ds, r, b⟩ := F.binds1 (ps := ["self", "pid", "priority"]) 3 1 (by simp) rfl fun T kV doc pm an cdv ct us its h1 h2 => match us, its, h1, h2 with | [_, _, _], [_], _, _ => ⟨_, rfl, rfl⟩
  exact ⟨f, fd, _, ds, L.cl, hm, F.ok sc_Ages__lend (fun vs H Q E h => len_lend h) (fun cdv A outer s H vs Q E hr hsp => let ⟨t, h, q⟩ := b_lend T L c_ask_range c_Ages__ask_member f cdv A outer s H vs Q E hr hsp; ⟨t, h.nox, q⟩), b, r⟩
/-! ### entering and leaving -/
def newM (p : Nat) (b : Bool) : Mb := ⟨p, 0, b, 0⟩
def sp_enter (C : Addr) : Sp := fun vs H Q _ => ∃ (o : Addr) (k p : Nat) (b : Bool) (S : AgS) (Z R : List Cell), vs = [.ref o, .int k, .int p, .bl b] ∧ k ≤ 7 ∧ p ≤ 7 ∧ AgB C o S Z ∧ S k = none ∧ Hd H (Z ++ R) ∧ ∀ Z' H', AgB C o (upS S k (some (newM p b))) Z' → Hd H' (Z' ++ R) → Q .non H'
theorem b_enter (T : Txt K mg aREG aOPS) (L : AgC K C) (c_ask_range : C8.Cal P w K mg base 3 "ask_range" (sp_ask K) []) (c_ask_truth : C8.Cal P w K mg base 1 "ask_truth" sp_askT []) (fa : Addr) (cdv : Value) (A : Around) (outer : List Env) (s : Shared) (H : Hp) (vs : List V) (Q : VK) (E : XK) (hr : Room 4 (A.deeper (envOfC "Ages.enter" (defScope s_Ages__enter) s.heap.objs.size fa cdv))) (h : sp_enter C vs H Q E) :
    ∃ t, PSs (cxOf C8.CX0 P w K mg base nm_Ages__enter "Ages.enter" (defScope s_Ages__enter) fa cdv A outer s H E).nox (defBody s_Ages__enter) t ∧ t { nx := fun _ H' => Q .non H', rt := Q } (L2.start nm_Ages__enter vs) H := by
  · obtain ⟨o, k, p, b, S, Z, R, rfl, hk, hp, hb, hS, hh, q⟩ := h
    have hu : (A.deeper (envOfC "Ages.enter" (defScope s_Ages__enter) s.heap.objs.size fa cdv)).units + 1 < cLine := by have := hr.un; omega
    refine ⟨_, (pss_cons (ps_expr (C8.pe_c c_ask_range hr (by first | decide | omega) rfl (pa_cons pe_str (pa_cons (pv 1) (pa_cons pe_int (pa_cons pe_int pa_nil))))))
  (pss_cons (ps_expr (C8.pe_c c_ask_range hr (by first | decide | omega) rfl (pa_cons pe_str (pa_cons (pv 2) (pa_cons pe_int (pa_cons pe_int pa_nil))))))
  (pss_cons (ps_expr (C8.pe_c c_ask_truth hr (by first | decide | omega) rfl (pa_cons pe_str (pa_cons (pv 3) pa_nil))))
  (pss_cons (ps_if (pt_cmp (pc_din hu (pv 1) (pe_fld (pv 0) rfl)))
    (pss_one ps_never)
    pss_nil)
  (pss_one (ps_dput hu (pe_fld (pv 0) rfl) (pv 1) (pe_lst (pa_cons (pv 2) (pa_cons pe_int (pa_cons (pv 3) (pa_cons pe_int pa_nil))))) rfl)))))), ?_⟩
    have hc := L.cl
    have nm := L.nm
    obtain ⟨d, Z1, tb, rfl⟩ := hb
    obtain ⟨kv, X, e, hn, hgk, cl⟩ := tb.add (k := k) (by omega) hS
    subst e
    have h1 : Hd H (agI o C d :: dctC d kv :: (X ++ R)) := hh
    walk_at "gs"
    refine u_ask ⟨by omega, by omega⟩ ?_
    walk_at "gs"
    refine u_ask ⟨by omega, by omega⟩ ?_
    walk_at "gs"
    refine ⟨"ready", b, rfl, ?_⟩
    walk_at "gs"
    refine g_din (k := .inl (k : Int)) h1 (by walk_at "mem") rfl (b := false) hgk ?_
    walk_at "gs"
    rename_i ad H2 h2
    refine g_dput (k := .inl (k : Int)) h2 (by walk_at "pk") rfl (Nat.lt_of_le_of_lt hn (by decide)) fun H3 h3 => ?_
    obtain ⟨Z', tb', cl'⟩ := cl ad (newM p b)
    refine q (agI o C d :: Z') H3 ⟨d, Z', tb', rfl⟩ ?_
    have h4 := cl' H3 (agI o C d :: R) (Hd.sb (A := dctC d (putK kv (.inl (k : Int)) (.ref ad)) :: lstC ad [.int p, .int 0, .bl b, .int 0] :: (X ++ (agI o C d :: R))) h3 (by walk_at "sbx"))
    exact h4.perm List.perm_middle
theorem len_enter {vs : List V} {H : Hp} {Q : VK} {E : XK} (h : sp_enter C vs H Q E) : vs.length = 4 := by obtain ⟨o, k, p, b, S, Z, R, rfl, _⟩ := h; rfl
abbrev EnF (K : PySem.W.Frag) (C : Addr) (f : Addr) (fd : FuncData) : Prop := FunD K "enter" "Ages.enter" (defArgs s_Ages__enter) (defBody s_Ages__enter) (defScope s_Ages__enter) [.int 3] [("ready", .bl true)] f fd
theorem fo_enter {f : Addr} {fd : FuncData} (T : Txt K mg aREG aOPS) (L : AgC K C) (F : EnF K C f fd) (c_ask_range : C8.Cal P w K mg base 3 "ask_range" (sp_ask K) []) (c_ask_truth : C8.Cal P w K mg base 1 "ask_truth" sp_askT []) : FnOk P w K mg base C8.CX0 5 f fd ["self", "pid", "priority", "ready"] (sp_enter C) :=
  F.ok sc_Ages__enter (fun vs H Q E h => len_enter h) (fun cdv A outer s H vs Q E hr hsp => let ⟨t, h, q⟩ := b_enter T L c_ask_range c_ask_truth f cdv A outer s H vs Q E hr hsp; ⟨t, h.nox, q⟩)
theorem c_enter1 {f : Addr} {fd : FuncData} (T : Txt K mg aREG aOPS) (L : AgC K C) (F : EnF K C f fd) (hm : Meth K C "enter" f) (c_ask_range : C8.Cal P w K mg base 3 "ask_range" (sp_ask K) []) (c_ask_truth : C8.Cal P w K mg base 1 "ask_truth" sp_askT []) : C8.Met P w K mg base 5 C "enter" (sp_enter C) [.int 3, .bl true] := by
  obtain ⟨ds, r, b⟩ := F.binds (ps := ["self", "pid", "priority", "ready"]) 2 0 (by simp) rfl (fun T D doc pm an cdv ct us its ks h1 h2 h3 => match us, its, ks, h1, h2, h3 with | [_, _], [_], [_], _, _, _ => ⟨_, rfl, ⟨_, _, _, _, _, _, rfl, rfl, rfl⟩⟩) (by simp)
  exact ⟨f, fd, _, ds, L.cl, hm, fo_enter T L F c_ask_range c_ask_truth, b, r⟩
theorem c_enter2 {f : Addr} {fd : FuncData} (T : Txt K mg aREG aOPS) (L : AgC K C) (F : EnF K C f fd) (hm : Meth K C "enter" f) (c_ask_range : C8.Cal P w K mg base 3 "ask_range" (sp_ask K) []) (c_ask_truth : C8.Cal P w K mg base 1 "ask_truth" sp_askT []) : C8.Met P w K mg base 5 C "enter" (sp_enter C) [.bl true] := by
  obtain ⟨ds, r, b⟩ := F.binds (ps := ["self", "pid", "priority", "ready"]) 3 1 (by simp) rfl (fun T D doc pm an cdv ct us its ks h1 h2 h3 => match us, its, ks, h1, h2, h3 with | [_, _, _], [_], [_], _, _, _ => ⟨_, rfl, ⟨_, _, _, _, _, _, rfl, rfl, rfl⟩⟩) (by simp)
  exact ⟨f, fd, _, ds, L.cl, hm, fo_enter T L F c_ask_range c_ask_truth, b, r⟩
theorem ck_enter1 {f : Addr} {fd : FuncData} (T : Txt K mg aREG aOPS) (L : AgC K C) (F : EnF K C f fd) (hm : Meth K C "enter" f) (c_ask_range : C8.Cal P w K mg base 3 "ask_range" (sp_ask K) []) (c_ask_truth : C8.Cal P w K mg base 1 "ask_truth" sp_askT []) : MetP P w K mg base 5 C "enter" (sp_enter C) 1 ["ready"] (fun vs zs => vs ++ ([.int 3] ++ zs)) := by
  obtain ⟨its, kb⟩ := F.kbindsD (ps := ["self", "pid", "priority", "ready"]) 2 ["ready"] (fun us its ws => us ++ (its ++ ws)) (by simp) (fun r1 r2 r3 => r1.append (r2.append r3)) fun T kV doc pm an cdv ct us its ws h1 h2 h3 => match us, its, ws, h1, h2, h3 with | [_, _], [_], [_], _, _, _ => ⟨_, rfl, rfl⟩
  exact ⟨f, fd, _, _, L.cl, hm, fo_enter T L F c_ask_range c_ask_truth, kb⟩
theorem ck_enter2 {f : Addr} {fd : FuncData} (T : Txt K mg aREG aOPS) (L : AgC K C) (F : EnF K C f fd) (hm : Meth K C "enter" f) (c_ask_range : C8.Cal P w K mg base 3 "ask_range" (sp_ask K) []) (c_ask_truth : C8.Cal P w K mg base 1 "ask_truth" sp_askT []) : MetP P w K mg base 5 C "enter" (sp_enter C) 2 ["ready"] (fun vs zs => vs ++ zs) := by
  obtain ⟨its, kb⟩ := F.kbindsD (ps := ["self", "pid", "priority", "ready"]) 3 ["ready"] (fun us _ ws => us ++ ws) (by simp) (fun r1 _ r3 => r1.append r3) fun T kV doc pm an cdv ct us its ws h1 h2 h3 => match us, its, ws, h1, h2, h3 with | [_, _, _], [_], [_], _, _, _ => ⟨_, rfl, rfl⟩
  exact ⟨f, fd, _, _, L.cl, hm, fo_enter T L F c_ask_range c_ask_truth, kb⟩
def sp_leave (C : Addr) : Sp := fun vs H Q _ => ∃ (o : Addr) (k : Nat) (m : Mb) (S : AgS) (Z R : List Cell), vs = [.ref o, .int k] ∧ AgB C o S Z ∧ S k = some m ∧ Hd H (Z ++ R) ∧ ∀ Z' H', AgB C o (upS S k none) Z' → Hd H' (Z' ++ R) → Q .non H'
theorem c_leave (T : Txt K mg aREG aOPS) (L : AgC K C) (d : MetAt K C "leave" "Ages.leave" s_Ages__leave) (c_Ages__ask_member : C8.Met P w K mg base 4 C "_ask_member" (sp_askM C) []) : C8.Met P w K mg base 5 C "leave" (sp_leave C) [] := by
  refine mkM d sc_Ages__leave (fun _ _ _ _ _ _ us hl => match us, hl with | [_, _], _ => rfl) (fun vs H Q E h => ?_) (fun fa cdv A outer s H vs Q E hr h => ?_)
  · obtain ⟨o, k, m, S, Z, R, rfl, _⟩ := h
    rfl
  · obtain ⟨o, k, m, S, Z, R, rfl, hb, hk, hh, q⟩ := h
    refine ⟨_, (pss_cons (ps_expr (C8.pe_mt c_Ages__ask_member hr (by first | decide | omega) (pv 0) (pa_cons (pv 1) pa_nil)))
  (pss_one (ps_ddel (pe_fld (pv 0) rfl) (pv 1)))), ?_⟩
    have hc := L.cl
    have nm := L.nm
    have hb2 := hb
    obtain ⟨d, Z1, tb, rfl⟩ := hb
    obtain ⟨kv, X, e, ⟨ad, hv⟩, Z', tb', cl⟩ := tb.del hk
    subst e
    have h1 : Hd H (agI o C d :: dctC d kv :: (X ++ R)) := hh
    walk_at "gs"
    refine ⟨o, k, m, S, _, R, rfl, hb2, hk, hh, ?_⟩
    walk_at "gs"
    refine g_ddel (k := .inl (k : Int)) h1 (by walk_at "pk") rfl (by rw [hv]; rfl) fun H3 h3 => ?_
    refine q (agI o C d :: Z') H3 ⟨d, Z', tb', rfl⟩ ?_
    have h4 := cl H3 (agI o C d :: R) (Hd.sb (A := dctC d (dropK kv (.inl (k : Int))) :: (X ++ (agI o C d :: R))) h3 (by walk_at "sbx"))
    exact h4.perm List.perm_middle
/-! ### questions -/
def memB (S : AgS) (v : V) : Bool := match v with
  | .int i => decide (0 ≤ i) && (S i.toNat).isSome
  | _ => false
def sp_cont (K : PySem.W.Frag) (C : Addr) : Sp := fun vs H Q _ => ∃ (o : Addr) (v : V) (t : String) (S : AgS) (Z R : List Cell), vs = [.ref o, v] ∧ KH K H v t ∧ AgB C o S Z ∧ Hd H (Z ++ R) ∧ Q (.bl (memB S v)) H
theorem c_cont (T : Txt K mg aREG aOPS) (L : AgC K C) (d : MetAt K C "__contains__" "Ages.__contains__" s_Ages____contains__) (c_is_integer : C8.Cal P w K mg base 1 "is_integer" (sp_integer K) []) : C8.Met P w K mg base 2 C "__contains__" (sp_cont K C) [] := by
  refine mkM d sc_Ages____contains__ (fun _ _ _ _ _ _ us hl => match us, hl with | [_, _], _ => rfl) (fun vs H Q E h => ?_) (fun fa cdv A outer s H vs Q E hr h => ?_)
  · obtain ⟨o, v, t, S, Z, R, rfl, _⟩ := h
    rfl
  · obtain ⟨o, v, t, S, Z, R, rfl, kh, hb, hh, q⟩ := h
    have hu : (A.deeper (envOfC "Ages.__contains__" (defScope s_Ages____contains__) s.heap.objs.size fa cdv)).units + 1 < cLine := by have := hr.un; omega
    refine ⟨_, (pss_one (ps_ret (pe_and (C8.pe_c c_is_integer hr (by first | decide | omega) rfl (pa_cons (pv 1) pa_nil)) (pe_one (pe_cmp (pc_din hu (pv 1) (pe_fld (pv 0) rfl))))))), ?_⟩
    have hc := L.cl
    have nm := L.nm
    obtain ⟨d, Z1, tb, rfl⟩ := hb
    obtain ⟨kv, X, e, hn, hg, hneg⟩ := tb.has
    subst e
    have h1 : Hd H (agI o C d :: dctC d kv :: (X ++ R)) := hh
    walk_at "gs"
    refine u_integer kh ?_
    cases kh with
    | int =>
      rename_i i
      refine ⟨true, rfl, ?_⟩
      walk_at "gs"
      refine g_din (k := .inl i) h1 (by walk_at "mem") rfl (b := memB S (.int i)) ?_ q
      show (valV kv (.inl i)).isSome = (decide (0 ≤ i) && (S i.toNat).isSome)
      by_cases h : 0 ≤ i
      · obtain ⟨j, rfl⟩ := Int.eq_ofNat_of_zero_le h
        rw [decide_eq_true h, Bool.true_and]
        exact hg j
      · rw [decide_eq_false h, Bool.false_and]
        exact hneg i (by omega)
    | _ =>
      refine ⟨false, rfl, ?_⟩
      walk_at "gs"
      exact q
end
end
end K24
set_option Elab.async false
set_option linter.all false
set_option maxRecDepth 100000
set_option maxHeartbeats 4000000
namespace K24
open PySem PySem.Spec PyProof.Rows L2 Wk
local macro_rules | `(tactic| walk_at "u1") => `(tactic| fail "no more")
local macro_rules | `(tactic| walk_at "pos") => `(tactic| first | assumption | omega | decide | (simp only [Int.ofNat_eq_natCast] at *; omega))
local macro_rules | `(tactic| walk_at "sz") => `(tactic| first
  | (simp only [List.length_cons, List.length_nil]; decide)
  | exact Evl.sz_of (by omega)
  | exact Evl.sz_lt (by omega)
  | exact Evl.sz_of (by simp only [List.length_map, List.length_append, List.length_cons, List.length_nil, List.length_replicate]; omega)
  | exact Evl.sz_lt (by simp only [List.length_map, List.length_append, List.length_cons, List.length_nil, List.length_replicate]; omega))
local macro_rules | `(tactic| walk_at "cond") => `(tactic| first
  | exact Or.inr ⟨by decide, by decide⟩
  | (show (0 : Int) < _; first | decide | assumption | omega)
  | exact Or.inl ⟨by omega, by omega⟩
  | exact Or.inr ⟨by omega, by omega⟩
  | exact ⟨by decide, by decide, by decide⟩
  | exact log2_lt (by omega) (by omega)
  | exact ⟨by omega, by omega⟩)
local macro_rules | `(tactic| walk_at "ty") => `(tactic| first
  | exact ty_int | exact ty_bl | exact ty_str | exact ty_non
  | exact ty_L (by assumption) | exact ty_T (by assumption)
  | exact ty_L (SqL.of (by assumption)) | exact ty_T (SqT.of (by assumption)))
local macro_rules | `(tactic| walk_at "kit") => `(tactic| first
  | exact k_ii | exact k_ib | exact k_is | exact k_il | exact k_it
  | exact k_bb | exact k_bi | exact k_bs | exact k_bl | exact k_bt
  | exact k_ss | exact k_sb | exact k_si | exact k_sl | exact k_st
  | exact k_ll | exact k_lb | exact k_li | exact k_ls | exact k_lt
  | exact k_tt | exact k_tb | exact k_ti | exact k_ts | exact k_tl
  | exact k_nn | exact k_ni | exact k_ns | exact k_nl | exact k_nt)
local macro_rules | `(tactic| walk_at "s1") => `(tactic| first
  | with_reducible refine w_seq ?_
  | with_reducible refine w_set ?_
  | with_reducible refine w_op ?_
  | ((with_reducible refine' w_var ?h1 ?_); (case h1 => rfl))
  | with_reducible refine w_c ?_
  | with_reducible refine w_cb ?_
  | with_reducible refine w_cons ?_
  | with_reducible refine w_nil ?_
  | with_reducible refine w_I0 ?_
  | ((with_reducible refine' w_I ?c1 ?_); case c1 => walk_at "cond")
  | with_reducible refine w_ret ?_
  | with_reducible refine w_next ?_
  | with_reducible refine w_ifS ?_
  | with_reducible refine w_test ?_
  | with_reducible refine w_tB ?_
  | with_reducible refine w_k ?_
  | with_reducible refine w_eqI ?_
  | with_reducible refine w_neI ?_
  | with_reducible refine w_eqS ?_
  | with_reducible refine w_neS ?_
  | with_reducible refine w_and ?_
  | with_reducible refine w_or ?_
  | with_reducible refine w_not ?_
  | with_reducible refine w_andV ?_
  | with_reducible refine w_orV ?_
  | with_reducible refine w_notV ?_
  | with_reducible refine w_ifE ?_
  | with_reducible refine w_true ?_
  | with_reducible refine w_false ?_
  | with_reducible refine w_ntrue ?_
  | with_reducible refine w_nfalse ?_
  | with_reducible refine w_call ?_
  | with_reducible refine c_int ?_
  | with_reducible refine c_abs ?_
  | with_reducible refine c_max ?_
  | with_reducible refine c_min ?_
  | with_reducible refine w_drop ?_
  | with_reducible refine w_sfld ?_
  | with_reducible refine w_meth ?_
  | with_reducible refine w_make ?_
  | with_reducible refine w_prop ?_
  | with_reducible refine w_callK ?_
  | with_reducible refine w_callN ?_
  | with_reducible refine w_star ?_
  | with_reducible refine w_gcons ?_
  | with_reducible refine w_gname ?_
  | with_reducible refine w_gnil ?_
  | with_reducible refine w_retN ?_
  | with_reducible refine w_tup ?_
  | with_reducible refine w_lst ?_
  | with_reducible refine w_fld ?_
  | with_reducible refine w_bm ?_
  | with_reducible refine w_bm0 ?_
  | with_reducible refine w_forL ?_
  | with_reducible refine w_forT ?_
  | with_reducible refine w_forS ?_
  | with_reducible refine w_forR ?_
  | with_reducible refine w_lcR ?_
  | with_reducible refine w_lcL ?_
  | with_reducible refine w_lcT ?_
  | with_reducible refine w_isN ?_
  | with_reducible refine w_notN ?_
  | with_reducible refine w_asg ?_
  | with_reducible refine w_gsub ?_
  | ((with_reducible refine' w_aug ?h1 ?_); (case h1 => rfl))
  | with_reducible refine w_augS ?_
  | with_reducible refine w_ipI ?_
  | with_reducible refine w_un ?_
  | with_reducible refine w_U ?_
  | ((with_reducible refine' w_iteF ?f1 ?_); case f1 => (first | (intro h; cases h; done) | decide))
  | ((with_reducible refine' w_iteT ?f1 ?_); case f1 => rfl)
  | ((with_reducible refine' w_iteNF ?f1 ?_); case f1 => rfl)
  | ((with_reducible refine' w_iteNT ?f1 ?_); case f1 => (first | (intro h; cases h; done) | decide))
  | ((with_reducible refine' c_isi ?t1 ?k1 ?_); (case t1 => walk_at "ty"); (case k1 => walk_at "kit"))
  | ((with_reducible refine' w_eq ?e1 ?_); case e1 => rfl)
  | ((with_reducible refine' w_ne ?e1 ?_); case e1 => rfl)
  | walk_at "u1")
local macro_rules | `(tactic| walk_at "s") => `(tactic| repeat walk_at "s1")
local macro_rules | `(tactic| walk_at "mem") => `(tactic| first | with_reducible exact List.mem_cons_self .. | ((with_reducible refine' List.mem_cons_of_mem _ ?q); (case q => walk_at "mem")) | assumption | ((with_reducible refine' List.mem_append_right _ ?q); (case q => walk_at "mem")) | (exact List.mem_append_left _ (by assumption)))
local macro_rules | `(tactic| walk_at "pk") => `(tactic| first | with_reducible exact Pk.here | ((with_reducible refine' Pk.there ?q); (case q => walk_at "pk")) | ((with_reducible refine' Pk.app ?q); (case q => walk_at "pk")))
local macro_rules | `(tactic| walk_at "pkb") => `(tactic| first | with_reducible exact PkB.here | ((with_reducible refine' PkB.there ?q); (case q => walk_at "pkb")) | ((with_reducible refine' PkB.app ?q); (case q => walk_at "pkb")))
local macro_rules | `(tactic| walk_at "spl") => `(tactic| first | with_reducible exact Spl.nil | ((with_reducible refine' Spl.cons ?h ?t); (case h => walk_at "pk"); (case t => walk_at "spl")) | ((with_reducible refine' Spl.blk ?h ?t); (case h => walk_at "pkb"); (case t => walk_at "spl")))
local macro_rules | `(tactic| walk_at "sbx") => `(tactic| first | with_reducible exact Sb.refl | with_reducible exact Sb.nil | with_reducible exact Sb.left | ((with_reducible refine' Sb.cons ?h ?t); (case h => walk_at "pk"); (case t => walk_at "sbx")) | ((with_reducible refine' Sb.blk ?h ?t); (case h => walk_at "pkb"); (case t => walk_at "sbx")) | ((with_reducible refine' Sb.drop ?q); (case q => walk_at "sbx")) | ((with_reducible refine' Sb.right ?q); (case q => walk_at "sbx")))
local macro_rules | `(tactic| walk_at "hd") => `(tactic| first | assumption | exact Hd.sb (by assumption) (by walk_at "sbx"))
local macro_rules | `(tactic| walk_at "sq") => `(tactic| first
  | assumption
  | exact Hd.sqL (by assumption) (by walk_at "mem")
  | exact Hd.sqT (by assumption) (by walk_at "mem")
  | exact Hd.sqF (by assumption) (by walk_at "mem")
  | (refine .inl ?_; walk_at "sq")
  | (refine .inr ?_; walk_at "sq"))
local macro_rules | `(tactic| walk_at "at") => `(tactic| first | rfl | assumption | exact atI_nat (by assumption))
local macro_rules | `(tactic| walk_at "dn1") => `(tactic| first
  | exact Dn.int | exact Dn.str | exact Dn.non | exact Dn.bl | assumption
  | ((refine' Dn.tp ?a1 ?m1 ?l1 ?p1); (case a1 => assumption); (case m1 => walk_at "mem"); (case l1 => (simp only [List.length_cons, List.length_nil]; omega)); (case p1 => walk_at "dns"))
  | ((refine' Dn.lt ?a1 ?m1 ?l1 ?p1); (case a1 => assumption); (case m1 => walk_at "mem"); (case l1 => (simp only [List.length_cons, List.length_nil]; omega)); (case p1 => walk_at "dns")))
local macro_rules | `(tactic| walk_at "dns") => `(tactic| first | exact Paired.nil | exact Dn.ints | ((refine' Paired.cons ?a1 ?b1); (case a1 => walk_at "dn1"); (case b1 => walk_at "dns")))
local macro_rules | `(tactic| walk_at "g1") => `(tactic| first
  | ((with_reducible refine' g_ixI ?h1 ?h2 ?h3 ?_); (case h1 => assumption); (case h2 => walk_at "mem"); (case h3 => omega); intro z hz)
  | ((with_reducible refine' g_ixIT ?h1 ?h2 ?h3 ?_); (case h1 => assumption); (case h2 => walk_at "mem"); (case h3 => omega); intro z hz)
  | ((with_reducible refine' g_setI ?h1 ?h2 ?h3 ?_); (case h1 => assumption); (case h2 => walk_at "pk"); (case h3 => omega); intro H2 hh2)
  | ((with_reducible refine' w_ixL ?h1 ?h2 ?_); (case h1 => walk_at "sq"); (case h2 => walk_at "at"))
  | ((with_reducible refine' w_ixT ?h1 ?h2 ?_); (case h1 => walk_at "sq"); (case h2 => walk_at "at"))
  | ((with_reducible refine' w_ixAny ?h1 ?h2 ?_); (case h1 => walk_at "sq"); (case h2 => walk_at "at"))
  | ((with_reducible refine' c_lenA ?h1 ?_); (case h1 => walk_at "sq"))
  | ((with_reducible refine' c_isi ?t1 ?k1 ?_); (case t1 => first | exact ty_T (by walk_at "sq") | exact ty_L (by walk_at "sq")); (case k1 => walk_at "kit"))
  | ((with_reducible refine' g_lst ?h1 ?h2 ?_); (case h1 => assumption); (case h2 => walk_at "sz"); intro p H2 hh2)
  | ((with_reducible refine' g_tup ?h1 ?h2 ?_); (case h1 => assumption); (case h2 => walk_at "sz"); intro p H2 hh2)
  | ((with_reducible refine' g_dict ?h1 ?_); (case h1 => assumption); intro p H2 hh2)
  | ((with_reducible refine' g_listL ?h1 ?h2 ?_); (case h1 => assumption); (case h2 => walk_at "sq"); intro p H2 hh2)
  | ((with_reducible refine' g_listT ?h1 ?h2 ?_); (case h1 => assumption); (case h2 => walk_at "sq"); intro p H2 hh2)
  | ((with_reducible refine' g_tupL ?h1 ?h2 ?_); (case h1 => assumption); (case h2 => walk_at "sq"); intro p H2 hh2)
  | ((with_reducible refine' g_set ?h1 ?h2 ?h3 ?_); (case h1 => assumption); (case h2 => walk_at "pk"); (case h3 => first | rfl | assumption | exact Evl.ixN_nat (by first | omega | (simp only [List.length_cons, List.length_nil]; omega))); intro H2 hh2)
  | ((with_reducible refine' g_kbm ?h1 ?h2 ?_); (case h1 => assumption); (case h2 => walk_at "mem"))
  | ((with_reducible refine' g_kbm0 ?h1 ?h2 ?_); (case h1 => assumption); (case h2 => walk_at "mem"))
  | ((with_reducible refine' g_app ?h1 ?h2 ?h3 ?_); (case h1 => assumption); (case h2 => walk_at "pk"); (case h3 => walk_at "sz"); intro H2 hh2)
  | ((with_reducible refine' g_kapp ?h1 ?h2 ?h3 ?_); (case h1 => assumption); (case h2 => walk_at "pk"); (case h3 => walk_at "sz"); intro H2 hh2)
  | ((with_reducible refine' g_fld ?h1 ?h2 ?h3 ?h4 ?h5 ?_); (case h1 => assumption); (case h2 => walk_at "mem"); (case h3 => assumption); (case h4 => assumption); (case h5 => rfl))
  | ((with_reducible refine' g_sfld ?h1 ?h2 ?h3 ?h4 ?h5 ?_); (case h1 => assumption); (case h2 => walk_at "pk"); (case h3 => assumption); (case h4 => assumption); (case h5 => decide); intro H2 hh2)
  | ((with_reducible refine' g_meth ?h1 ?h2 ?h3 ?_); (case h1 => assumption); (case h2 => walk_at "mem"); (case h3 => rfl))
  | ((with_reducible refine' g_prop ?h1 ?h2 ?_); (case h1 => assumption); (case h2 => walk_at "mem"))
  | ((with_reducible refine' g_make ?h1 ?_); (case h1 => assumption); intro x H2 hh2)
  | ((with_reducible refine' g_cat ?h1 ?h2 ?h3 ?h4 ?_); (case h1 => assumption); (case h2 => walk_at "mem"); (case h3 => walk_at "mem"); (case h4 => walk_at "sz"); intro p H2 hh2)
  | ((with_reducible refine' g_inT ?h1 ?h2 ?h3 ?h4 ?h5 ?_); (case h1 => assumption); (case h2 => walk_at "mem"); (case h3 => rfl); (case h4 => rfl); (case h5 => rfl)))
local macro_rules | `(tactic| walk_at "gs") => `(tactic| repeat first | walk_at "s1" | walk_at "g1")
local macro_rules | `(tactic| walk_at "ite") => `(tactic| first
  | ((with_reducible refine' w_iteT ?h1 ?_); (case h1 => omega))
  | ((with_reducible refine' w_iteF ?h1 ?_); (case h1 => omega))
  | (with_reducible refine w_ite ?_ ?_ <;> intro hq)
  | ((with_reducible refine' w_iteNT ?h1 ?_); (case h1 => omega))
  | ((with_reducible refine' w_iteNF ?h1 ?_); (case h1 => omega))
  | (with_reducible refine w_iteN ?_ ?_ <;> intro hq))
local macro_rules | `(tactic| walk_at "go") => `(tactic| repeat' first | walk_at "s1" | walk_at "g1" | walk_at "ite")
local macro_rules | `(tactic| walk_at "g1") => `(tactic| first | with_reducible refine w_din ?_ | with_reducible refine w_dnotin ?_ | with_reducible refine w_dget ?_ | with_reducible refine w_dput ?_ | with_reducible refine w_ddel ?_ | with_reducible refine w_dpop ?_)
section
variable {P : Program} {w : World} {K : PySem.W.Frag} {mg : Str → Option Value} {base : Heap} {aREG aOPS : Addr}
/-! ### rows and pick -/
def natV (xs : List Nat) : List V := xs.map fun k : Nat => V.int (k : Int)
theorem natV_ints (xs : List Nat) : (xs.map fun k : Nat => (k : Int)).map V.int = natV xs := by
  unfold natV
  rw [List.map_map]
  rfl
theorem natV_len (xs : List Nat) : (natV xs).length = xs.length := List.length_map ..
/-- sorted(list(d)) -/
theorem g_keys {ρ : Type} {rv : ρ → List V} {n : Nat} {d : Addr} {S : Nat → Option ρ} {Z1 : List Cell} {σ : L2.St} {H : Hp} {L : List Cell} {Q : VK} (tb : TabB rv n d S Z1) (hn : n < 64) (hh : Hd H L) (m : ∀ kv X, Z1 = dctC d kv :: X → dctC d kv ∈ L)
    (q : ∀ p H', Hd H' (lstC p (natV (keysS n S)) :: L) → Q (.ref p) H') : CB rListD [.ref d] H fun v H1 => tNil σ H1 fun xs H2 => CB (rSorted K) (v :: xs) H2 Q := by
  obtain ⟨ks, kv, X, e, _, hk, hl, hs⟩ := tb.sorted
  refine g_listDK hh (m kv X e) fun l H2 h2 => ?_
  rw [hk] at h2
  refine ⟨l, ks.map fun k : Nat => (k : Int), rfl, h2.sqL (List.mem_cons_self ..), by rw [List.length_map]; omega, fun ns' p hp hp2 hn2 => ?_⟩
  have h3 := h2.newL (New.of (o := HO.lst (ns'.map V.int)) hn2)
  rw [hs ns' hp hp2, natV_ints] at h3
  rw [hs ns' hp hp2, natV_ints]
  generalize upd H2 p _ = H3 at h3 ⊢
  exact q p H3 ⟨(List.nodup_cons.mpr ⟨fun z => (List.nodup_cons.mp h3.nd).1 (List.mem_cons_of_mem _ z), (List.nodup_cons.mp (List.nodup_cons.mp h3.nd).2).2⟩), fun c hc => h3.at_ c ((List.mem_cons.mp hc).elim (fun e => by rw [e]; exact List.mem_cons_self ..) fun z => List.mem_cons_of_mem _ (List.mem_cons_of_mem _ z))⟩
abbrev keys8 (S : AgS) : List Nat := keysS 8 S
def mbP (k : Nat) (m : Mb) : PyData := .tuple [.int k, .int m.base, .int m.lent, .bool m.ready, .int m.age]
def rowsP (S : AgS) (ks : List Nat) : List PyData := ks.map fun k => ((S k).map (mbP k)).getD .none
section
variable {C : Addr}
def sp_rows (K : PySem.W.Frag) (C : Addr) : Sp := fun vs H Q _ => ∃ (o : Addr) (S : AgS) (Z R : List Cell), vs = [.ref o] ∧ AgB C o S Z ∧ Hd H (Z ++ R) ∧ ∀ D xs Y H', xs.length ≤ 8 → (∀ H, Hd H Y → Paired (Dn K [] H 1) xs (rowsP S (keys8 S))) → Hd H' (lstC D xs :: (Y ++ (Z ++ R))) → Q (.ref D) H'
theorem c_rows (T : Txt K mg aREG aOPS) (L : AgC K C) (d : MetAt K C "rows" "Ages.rows" s_Ages__rows) : C8.Met P w K mg base 1 C "rows" (sp_rows K C) [] := by
  refine mkM d sc_Ages__rows (fun _ _ _ _ _ _ us hl => match us, hl with | [_], _ => rfl) (fun vs H Q E h => ?_) (fun fa cdv A outer s H vs Q E hr h => ?_)
  · obtain ⟨o, S, Z, R, rfl, _⟩ := h
    rfl
  · obtain ⟨o, S, Z, R, rfl, hb, hh, q⟩ := h
    have hu : (A.deeper (envOfC "Ages.rows" (defScope s_Ages__rows) s.heap.objs.size fa cdv)).units + 1 < cLine := by have := hr.un; omega
    refine ⟨_, (pss_one (ps_ret (pe_lc (own := [("pid", 1)]) rfl sc_Ages__rows.nd (pi_list (pe_callB cr_sorted (by rfl) T.b_sorted (by decide +kernel) (pa_cons (pe_callTy (call_list_dK rfl) (by rfl) T.b_list (by decide +kernel) (pa_cons (pe_fld (pv 0) rfl) pa_nil)) pa_nil))) (blkOk_by (own := [("pid", 1)]) (N := nm_Ages__rows) (sc := defScope s_Ages__rows) (by decide +kernel)) (fun _ _ _ _ _ => (pg_name (i := 1) sc_Ages__rows.nd rfl (Or.inl rfl))) (fun _ _ _ _ _ => pts_nil) (fun _ _ _ _ _ => (pe_tup (pa_cons (pv 1) (show PA _ _ (StX.tStar K _ _) from (StX.pa_star (pe_dget hu (show PE _ _ (tFld K (tVar 0) (Str.ofString "_members")) from pe_fld (pv 0) rfl) (pv 1) (fun _ _ => rfl)) pa_nil)))))))), ?_⟩
    have hc := L.cl
    have nm := L.nm
    have hb2 := hb
    obtain ⟨d, Z1, tb, rfl⟩ := hb
    have h1 : Hd H (agI o C d :: (Z1 ++ R)) := hh
    walk_at "gs"
    refine g_keys tb (by decide) h1 (fun kv X e => by rw [e]; exact List.mem_cons_of_mem _ (List.mem_cons_self ..)) fun p H2 h2 => ?_
    have hkl : (keys8 S).length ≤ 8 := by
      show ((List.range 8).filter fun k => (S k).isSome).length ≤ 8
      exact Nat.le_trans (List.length_filter_le _ _) (by rw [List.length_range]; exact Nat.le_refl _)
    refine g_lcL h2 (h2.sqL (List.mem_cons_self ..)) (fun i D H => ∃ (xs : List V) (Y : List Cell), xs.length = i ∧ i ≤ 8 ∧ (∀ H, Hd H Y → Paired (Dn K [] H 1) xs (rowsP S ((keys8 S).take i))) ∧ Hd H (lstC D xs :: lstC p (natV (keys8 S)) :: (Y ++ (agI o C d :: (Z1 ++ R))))) (fun D H1 h1 => ⟨[], [], rfl, by omega, fun _ _ => .nil, h1⟩) (fun i D H _ h => by obtain ⟨_, _, _, _, _, h⟩ := h; exact h.sqL (by walk_at "mem")) ?_ ?_
    · rintro i x D H3 hx ⟨xs, Y, hxl, hi8, hY, h3⟩
      unfold natV at hx
      rw [List.getElem?_map] at hx
      cases hw : (keys8 S)[i]? with
      | none => rw [hw] at hx; cases hx
      | some k =>
        rw [hw] at hx
        cases hx
        have hi : i < (keys8 S).length := (List.getElem?_eq_some_iff.mp hw).1
        have hks := (keysS_mem.mp (List.mem_of_getElem? hw)).2
        obtain ⟨m, hm⟩ : ∃ m, S k = some m := Option.isSome_iff_exists.mp hks
        obtain ⟨ad, kv, X, hv, op, _⟩ := tb.open hm
        have h4 : Hd H3 (dctC d kv :: lstC ad (mbV m) :: (X ++ (lstC D xs :: lstC p (natV (keys8 S)) :: (Y ++ (agI o C d :: R))))) := (op _ _).mp (Hd.sb h3 (by walk_at "sbx"))
        have hsz : xs.length < sizeLine := Nat.lt_of_lt_of_le (show xs.length < 1001 by omega) (by decide)
        clear h1 h2
        walk_at "gs"
        refine g_dget (k := .inl (k : Int)) h4 (by walk_at "mem") rfl hv ?_
        refine w_kstarL (h4.sqL (by walk_at "mem")) ?_
        walk_at "gs"
        rename_i t H5 h5 H6 h6
        refine ⟨xs ++ [.ref t], tupC t (.int (k : Int) :: mbV m) :: Y, by rw [List.length_append, hxl]; rfl, by omega, fun H hz => ?_, ?_⟩
        · unfold rowsP
          rw [tk_succ hw, List.map_append]
          refine pSnoc (hY H hz.tail) ?_
          show Dn K [] H 1 (.ref t) (((S k).map (mbP k)).getD .none)
          rw [hm]
          exact .inr (.inr ⟨t, _, _, rfl, rfl, List.not_mem_nil, hz.sqT (List.mem_cons_self ..), (show 5 ≤ 100000 by decide), .cons Dn.int (.cons Dn.int (.cons Dn.int (.cons Dn.bl (.cons Dn.int .nil))))⟩)
        · have h6 : Hd H6 (lstC D (xs ++ [.ref t]) :: tupC t (.int (k : Int) :: mbV m) :: dctC d kv :: lstC ad (mbV m) :: (X ++ (lstC p (natV (keys8 S)) :: (Y ++ (agI o C d :: R))))) := h6
          have h7 := (op H6 (lstC D (xs ++ [.ref t]) :: lstC p (natV (keys8 S)) :: tupC t (.int (k : Int) :: mbV m) :: (Y ++ (agI o C d :: R)))).mpr (Hd.sb (A := dctC d kv :: lstC ad (mbV m) :: (X ++ (lstC D (xs ++ [.ref t]) :: lstC p (natV (keys8 S)) :: tupC t (.int (k : Int) :: mbV m) :: (Y ++ (agI o C d :: R))))) h6 (by walk_at "sbx"))
          exact Hd.sb (A := lstC D (xs ++ [.ref t]) :: lstC p (natV (keys8 S)) :: tupC t (.int (k : Int) :: mbV m) :: (Y ++ (agI o C d :: (Z1 ++ R)))) h7 (by walk_at "sbx")
    · rintro D H3 ⟨xs, Y, hxl, hi8, hY, h3⟩
      rw [natV_len, List.take_length] at hY
      exact q D xs Y H3 (by omega) hY (show Hd H3 (lstC D xs :: (Y ++ (agI o C d :: (Z1 ++ R)))) from Hd.sb h3 (by walk_at "sbx"))
end
end
end K24
set_option Elab.async false
set_option linter.all false
set_option maxRecDepth 100000
set_option maxHeartbeats 4000000
namespace K24
open PySem PySem.Spec PyProof.Rows L2 Wk
local macro_rules | `(tactic| walk_at "u1") => `(tactic| fail "no more")
local macro_rules | `(tactic| walk_at "pos") => `(tactic| first | assumption | omega | decide | (simp only [Int.ofNat_eq_natCast] at *; omega))
local macro_rules | `(tactic| walk_at "sz") => `(tactic| first
  | (simp only [List.length_cons, List.length_nil]; decide)
  | exact Evl.sz_of (by omega)
  | exact Evl.sz_lt (by omega)
  | exact Evl.sz_of (by simp only [List.length_map, List.length_append, List.length_cons, List.length_nil, List.length_replicate]; omega)
  | exact Evl.sz_lt (by simp only [List.length_map, List.length_append, List.length_cons, List.length_nil, List.length_replicate]; omega))
local macro_rules | `(tactic| walk_at "cond") => `(tactic| first
  | exact Or.inr ⟨by decide, by decide⟩
  | (show (0 : Int) < _; first | decide | assumption | omega)
  | exact Or.inl ⟨by omega, by omega⟩
  | exact Or.inr ⟨by omega, by omega⟩
  | exact ⟨by decide, by decide, by decide⟩
  | exact log2_lt (by omega) (by omega)
  | exact ⟨by omega, by omega⟩)
local macro_rules | `(tactic| walk_at "ty") => `(tactic| first
  | exact ty_int | exact ty_bl | exact ty_str | exact ty_non
  | exact ty_L (by assumption) | exact ty_T (by assumption)
  | exact ty_L (SqL.of (by assumption)) | exact ty_T (SqT.of (by assumption)))
local macro_rules | `(tactic| walk_at "kit") => `(tactic| first
  | exact k_ii | exact k_ib | exact k_is | exact k_il | exact k_it
  | exact k_bb | exact k_bi | exact k_bs | exact k_bl | exact k_bt
  | exact k_ss | exact k_sb | exact k_si | exact k_sl | exact k_st
  | exact k_ll | exact k_lb | exact k_li | exact k_ls | exact k_lt
  | exact k_tt | exact k_tb | exact k_ti | exact k_ts | exact k_tl
  | exact k_nn | exact k_ni | exact k_ns | exact k_nl | exact k_nt)
local macro_rules | `(tactic| walk_at "s1") => `(tactic| first
  | with_reducible refine w_seq ?_
  | with_reducible refine w_set ?_
  | with_reducible refine w_op ?_
  | ((with_reducible refine' w_var ?h1 ?_); (case h1 => rfl))
  | with_reducible refine w_c ?_
  | with_reducible refine w_cb ?_
  | with_reducible refine w_cons ?_
  | with_reducible refine w_nil ?_
  | with_reducible refine w_I0 ?_
  | ((with_reducible refine' w_I ?c1 ?_); case c1 => walk_at "cond")
  | with_reducible refine w_ret ?_
  | with_reducible refine w_next ?_
  | with_reducible refine w_ifS ?_
  | with_reducible refine w_test ?_
  | with_reducible refine w_tB ?_
  | with_reducible refine w_k ?_
  | with_reducible refine w_eqI ?_
  | with_reducible refine w_neI ?_
  | with_reducible refine w_eqS ?_
  | with_reducible refine w_neS ?_
  | with_reducible refine w_and ?_
  | with_reducible refine w_or ?_
  | with_reducible refine w_not ?_
  | with_reducible refine w_andV ?_
  | with_reducible refine w_orV ?_
  | with_reducible refine w_notV ?_
  | with_reducible refine w_ifE ?_
  | with_reducible refine w_true ?_
  | with_reducible refine w_false ?_
  | with_reducible refine w_ntrue ?_
  | with_reducible refine w_nfalse ?_
  | with_reducible refine w_call ?_
  | with_reducible refine c_int ?_
  | with_reducible refine c_abs ?_
  | with_reducible refine c_max ?_
  | with_reducible refine c_min ?_
  | with_reducible refine w_drop ?_
  | with_reducible refine w_sfld ?_
  | with_reducible refine w_meth ?_
  | with_reducible refine w_make ?_
  | with_reducible refine w_prop ?_
  | with_reducible refine w_callK ?_
  | with_reducible refine w_callN ?_
  | with_reducible refine w_star ?_
  | with_reducible refine w_gcons ?_
  | with_reducible refine w_gname ?_
  | with_reducible refine w_gnil ?_
  | with_reducible refine w_retN ?_
  | with_reducible refine w_tup ?_
  | with_reducible refine w_lst ?_
  | with_reducible refine w_fld ?_
  | with_reducible refine w_bm ?_
  | with_reducible refine w_bm0 ?_
  | with_reducible refine w_forL ?_
  | with_reducible refine w_forT ?_
  | with_reducible refine w_forS ?_
  | with_reducible refine w_forR ?_
  | with_reducible refine w_lcR ?_
  | with_reducible refine w_lcL ?_
  | with_reducible refine w_lcT ?_
  | with_reducible refine w_isN ?_
  | with_reducible refine w_notN ?_
  | with_reducible refine w_asg ?_
  | with_reducible refine w_gsub ?_
  | ((with_reducible refine' w_aug ?h1 ?_); (case h1 => rfl))
  | with_reducible refine w_augS ?_
  | with_reducible refine w_ipI ?_
  | with_reducible refine w_un ?_
  | with_reducible refine w_U ?_
  | ((with_reducible refine' w_iteF ?f1 ?_); case f1 => (first | (intro h; cases h; done) | decide))
  | ((with_reducible refine' w_iteT ?f1 ?_); case f1 => rfl)
  | ((with_reducible refine' w_iteNF ?f1 ?_); case f1 => rfl)
  | ((with_reducible refine' w_iteNT ?f1 ?_); case f1 => (first | (intro h; cases h; done) | decide))
  | ((with_reducible refine' c_isi ?t1 ?k1 ?_); (case t1 => walk_at "ty"); (case k1 => walk_at "kit"))
  | ((with_reducible refine' w_eq ?e1 ?_); case e1 => rfl)
  | ((with_reducible refine' w_ne ?e1 ?_); case e1 => rfl)
  | walk_at "u1")
local macro_rules | `(tactic| walk_at "s") => `(tactic| repeat walk_at "s1")
local macro_rules | `(tactic| walk_at "mem") => `(tactic| first | with_reducible exact List.mem_cons_self .. | ((with_reducible refine' List.mem_cons_of_mem _ ?q); (case q => walk_at "mem")) | assumption | ((with_reducible refine' List.mem_append_right _ ?q); (case q => walk_at "mem")) | (exact List.mem_append_left _ (by assumption)))
local macro_rules | `(tactic| walk_at "pk") => `(tactic| first | with_reducible exact Pk.here | ((with_reducible refine' Pk.there ?q); (case q => walk_at "pk")) | ((with_reducible refine' Pk.app ?q); (case q => walk_at "pk")))
local macro_rules | `(tactic| walk_at "pkb") => `(tactic| first | with_reducible exact PkB.here | ((with_reducible refine' PkB.there ?q); (case q => walk_at "pkb")) | ((with_reducible refine' PkB.app ?q); (case q => walk_at "pkb")))
local macro_rules | `(tactic| walk_at "spl") => `(tactic| first | with_reducible exact Spl.nil | ((with_reducible refine' Spl.cons ?h ?t); (case h => walk_at "pk"); (case t => walk_at "spl")) | ((with_reducible refine' Spl.blk ?h ?t); (case h => walk_at "pkb"); (case t => walk_at "spl")))
local macro_rules | `(tactic| walk_at "sbx") => `(tactic| first | with_reducible exact Sb.refl | with_reducible exact Sb.nil | with_reducible exact Sb.left | ((with_reducible refine' Sb.cons ?h ?t); (case h => walk_at "pk"); (case t => walk_at "sbx")) | ((with_reducible refine' Sb.blk ?h ?t); (case h => walk_at "pkb"); (case t => walk_at "sbx")) | ((with_reducible refine' Sb.drop ?q); (case q => walk_at "sbx")) | ((with_reducible refine' Sb.right ?q); (case q => walk_at "sbx")))
local macro_rules | `(tactic| walk_at "hd") => `(tactic| first | assumption | exact Hd.sb (by assumption) (by walk_at "sbx"))
local macro_rules | `(tactic| walk_at "sq") => `(tactic| first
  | assumption
  | exact Hd.sqL (by assumption) (by walk_at "mem")
  | exact Hd.sqT (by assumption) (by walk_at "mem")
  | exact Hd.sqF (by assumption) (by walk_at "mem")
  | (refine .inl ?_; walk_at "sq")
  | (refine .inr ?_; walk_at "sq"))
local macro_rules | `(tactic| walk_at "at") => `(tactic| first | rfl | assumption | exact atI_nat (by assumption))
local macro_rules | `(tactic| walk_at "dn1") => `(tactic| first
  | exact Dn.int | exact Dn.str | exact Dn.non | exact Dn.bl | assumption
  | ((refine' Dn.tp ?a1 ?m1 ?l1 ?p1); (case a1 => assumption); (case m1 => walk_at "mem"); (case l1 => (simp only [List.length_cons, List.length_nil]; omega)); (case p1 => walk_at "dns"))
  | ((refine' Dn.lt ?a1 ?m1 ?l1 ?p1); (case a1 => assumption); (case m1 => walk_at "mem"); (case l1 => (simp only [List.length_cons, List.length_nil]; omega)); (case p1 => walk_at "dns")))
local macro_rules | `(tactic| walk_at "dns") => `(tactic| first | exact Paired.nil | exact Dn.ints | ((refine' Paired.cons ?a1 ?b1); (case a1 => walk_at "dn1"); (case b1 => walk_at "dns")))
local macro_rules | `(tactic| walk_at "g1") => `(tactic| first
  | ((with_reducible refine' g_ixI ?h1 ?h2 ?h3 ?_); (case h1 => assumption); (case h2 => walk_at "mem"); (case h3 => omega); intro z hz)
  | ((with_reducible refine' g_ixIT ?h1 ?h2 ?h3 ?_); (case h1 => assumption); (case h2 => walk_at "mem"); (case h3 => omega); intro z hz)
  | ((with_reducible refine' g_setI ?h1 ?h2 ?h3 ?_); (case h1 => assumption); (case h2 => walk_at "pk"); (case h3 => omega); intro H2 hh2)
  | ((with_reducible refine' w_ixL ?h1 ?h2 ?_); (case h1 => walk_at "sq"); (case h2 => walk_at "at"))
  | ((with_reducible refine' w_ixT ?h1 ?h2 ?_); (case h1 => walk_at "sq"); (case h2 => walk_at "at"))
  | ((with_reducible refine' w_ixAny ?h1 ?h2 ?_); (case h1 => walk_at "sq"); (case h2 => walk_at "at"))
  | ((with_reducible refine' c_lenA ?h1 ?_); (case h1 => walk_at "sq"))
  | ((with_reducible refine' c_isi ?t1 ?k1 ?_); (case t1 => first | exact ty_T (by walk_at "sq") | exact ty_L (by walk_at "sq")); (case k1 => walk_at "kit"))
  | ((with_reducible refine' g_lst ?h1 ?h2 ?_); (case h1 => assumption); (case h2 => walk_at "sz"); intro p H2 hh2)
  | ((with_reducible refine' g_tup ?h1 ?h2 ?_); (case h1 => assumption); (case h2 => walk_at "sz"); intro p H2 hh2)
  | ((with_reducible refine' g_dict ?h1 ?_); (case h1 => assumption); intro p H2 hh2)
  | ((with_reducible refine' g_listL ?h1 ?h2 ?_); (case h1 => assumption); (case h2 => walk_at "sq"); intro p H2 hh2)
  | ((with_reducible refine' g_listT ?h1 ?h2 ?_); (case h1 => assumption); (case h2 => walk_at "sq"); intro p H2 hh2)
  | ((with_reducible refine' g_tupL ?h1 ?h2 ?_); (case h1 => assumption); (case h2 => walk_at "sq"); intro p H2 hh2)
  | ((with_reducible refine' g_set ?h1 ?h2 ?h3 ?_); (case h1 => assumption); (case h2 => walk_at "pk"); (case h3 => first | rfl | assumption | exact Evl.ixN_nat (by first | omega | (simp only [List.length_cons, List.length_nil]; omega))); intro H2 hh2)
  | ((with_reducible refine' g_kbm ?h1 ?h2 ?_); (case h1 => assumption); (case h2 => walk_at "mem"))
  | ((with_reducible refine' g_kbm0 ?h1 ?h2 ?_); (case h1 => assumption); (case h2 => walk_at "mem"))
  | ((with_reducible refine' g_app ?h1 ?h2 ?h3 ?_); (case h1 => assumption); (case h2 => walk_at "pk"); (case h3 => walk_at "sz"); intro H2 hh2)
  | ((with_reducible refine' g_kapp ?h1 ?h2 ?h3 ?_); (case h1 => assumption); (case h2 => walk_at "pk"); (case h3 => walk_at "sz"); intro H2 hh2)
  | ((with_reducible refine' g_fld ?h1 ?h2 ?h3 ?h4 ?h5 ?_); (case h1 => assumption); (case h2 => walk_at "mem"); (case h3 => assumption); (case h4 => assumption); (case h5 => rfl))
  | ((with_reducible refine' g_sfld ?h1 ?h2 ?h3 ?h4 ?h5 ?_); (case h1 => assumption); (case h2 => walk_at "pk"); (case h3 => assumption); (case h4 => assumption); (case h5 => decide); intro H2 hh2)
  | ((with_reducible refine' g_meth ?h1 ?h2 ?h3 ?_); (case h1 => assumption); (case h2 => walk_at "mem"); (case h3 => rfl))
  | ((with_reducible refine' g_prop ?h1 ?h2 ?_); (case h1 => assumption); (case h2 => walk_at "mem"))
  | ((with_reducible refine' g_make ?h1 ?_); (case h1 => assumption); intro x H2 hh2)
  | ((with_reducible refine' g_cat ?h1 ?h2 ?h3 ?h4 ?_); (case h1 => assumption); (case h2 => walk_at "mem"); (case h3 => walk_at "mem"); (case h4 => walk_at "sz"); intro p H2 hh2)
  | ((with_reducible refine' g_inT ?h1 ?h2 ?h3 ?h4 ?h5 ?_); (case h1 => assumption); (case h2 => walk_at "mem"); (case h3 => rfl); (case h4 => rfl); (case h5 => rfl)))
local macro_rules | `(tactic| walk_at "gs") => `(tactic| repeat first | walk_at "s1" | walk_at "g1")
local macro_rules | `(tactic| walk_at "ite") => `(tactic| first
  | ((with_reducible refine' w_iteT ?h1 ?_); (case h1 => omega))
  | ((with_reducible refine' w_iteF ?h1 ?_); (case h1 => omega))
  | (with_reducible refine w_ite ?_ ?_ <;> intro hq)
  | ((with_reducible refine' w_iteNT ?h1 ?_); (case h1 => omega))
  | ((with_reducible refine' w_iteNF ?h1 ?_); (case h1 => omega))
  | (with_reducible refine w_iteN ?_ ?_ <;> intro hq))
local macro_rules | `(tactic| walk_at "go") => `(tactic| repeat' first | walk_at "s1" | walk_at "g1" | walk_at "ite")
local macro_rules | `(tactic| walk_at "g1") => `(tactic| first | with_reducible refine w_din ?_ | with_reducible refine w_dnotin ?_ | with_reducible refine w_dget ?_ | with_reducible refine w_dput ?_ | with_reducible refine w_ddel ?_ | with_reducible refine w_dpop ?_)
section
variable {P : Program} {w : World} {K : PySem.W.Frag} {mg : Str → Option Value} {base : Heap} {aREG aOPS : Addr}
/-! ### pick -/
def rdyB (S : AgS) (k : Nat) : Bool := ((S k).map (·.ready)).getD false
abbrev readyL (S : AgS) : List Nat := (keys8 S).filter (rdyB S)
def stdS (S : AgS) (k : Nat) : Int := ((S k).map stdI).getD 0
/-- the one that pick picks -/
def IsPick (S : AgS) (p : Nat) : Prop := p ∈ readyL S ∧ ∀ q ∈ readyL S, stdS S q ≤ stdS S p ∧ (q < p → stdS S q < stdS S p)
def agedM (m : Mb) : Mb := { m with age := m.age + 1 }
/-- the ages of those in T are one greater -/
def agedS (S : AgS) (T : List Nat) : AgS := fun k => if k ∈ T then (S k).map agedM else S k
def pickS (S : AgS) (p : Nat) : AgS := upS (agedS S (readyL S)) p ((S p).map fun m => { m with age := 0 })
theorem ready_mem {S : AgS} {k : Nat} : k ∈ readyL S ↔ k < 8 ∧ ∃ m, S k = some m ∧ m.ready = true := by
  unfold readyL rdyB
  rw [List.mem_filter, keysS_mem]
  constructor
  · rintro ⟨⟨h1, h2⟩, h3⟩
    obtain ⟨m, hm⟩ := Option.isSome_iff_exists.mp h2
    rw [hm] at h3
    exact ⟨h1, m, hm, h3⟩
  · rintro ⟨h1, m, hm, h3⟩
    rw [hm]
    exact ⟨⟨h1, rfl⟩, h3⟩
theorem ready_asc (S : AgS) : (readyL S).Pairwise (· < ·) := keysS_asc.sublist List.filter_sublist
theorem keys_len (S : AgS) : (keys8 S).length ≤ 8 := by
  show ((List.range 8).filter fun k => (S k).isSome).length ≤ 8
  exact Nat.le_trans (List.length_filter_le _ _) (by rw [List.length_range]; exact Nat.le_refl _)
theorem asc_at {xs : List Nat} (h : xs.Pairwise (· < ·)) {i j a b : Nat} (hi : xs[i]? = some a) (hj : xs[j]? = some b) : i < j ↔ a < b := by
  obtain ⟨h1, e1⟩ := List.getElem?_eq_some_iff.mp hi
  obtain ⟨h2, e2⟩ := List.getElem?_eq_some_iff.mp hj
  have key := List.pairwise_iff_getElem.mp h
  constructor
  · intro hlt
    have := key i j h1 h2 hlt
    omega
  · intro hlt
    rcases Nat.lt_trichotomy i j with z | z | z
    · exact z
    · subst z; omega
    · have := key j i h2 h1 z
      omega
theorem aged_snoc {S : AgS} {T : List Nat} {k : Nat} {m : Mb} (h : S k = some m) (n : k ∉ T) : upS (agedS S T) k (some (agedM m)) = agedS S (T ++ [k]) := funext fun j => by
  unfold upS agedS
  by_cases e : j = k
  · subst e
    rw [if_pos rfl, if_pos (List.mem_append_right _ (List.mem_singleton.mpr rfl)), h]
    rfl
  · rw [if_neg e]
    by_cases t : j ∈ T
    · rw [if_pos t, if_pos (List.mem_append_left _ t)]
    · rw [if_neg t, if_neg fun z => (List.mem_append.mp z).elim t fun z => e (List.mem_singleton.mp z)]
theorem aged_nil (S : AgS) : agedS S [] = S := funext fun j => if_neg (List.not_mem_nil)
theorem w_ckw {r : List V → List V → Hp → VK → Prop} {t tk : TA} {σ : L2.St} {H : Hp} {Q : VK} (h : t σ H fun vs H1 => tk σ H1 fun zs H2 => r vs zs H2 Q) : tCKw r t tk σ H Q := h
theorem w_bnd {C : Addr} {m : Str} {g : Addr} {ta : TE} {σ : L2.St} {H : Hp} {Q : VK} (h : ta σ H fun x H1 => ∃ a dx fs, x = .ref a ∧ H1 a = some (.ins C dx fs) ∧ fs.lookup m = none ∧ ∀ p, H1 p = none → Q (.ref p) (upd H1 p (.met g a))) : tBnd C m g ta σ H Q := h
section
variable {C : Addr}
def sp_pickA (C : Addr) : Sp := fun vs H Q _ => ∃ (o : Addr) (S : AgS) (Z R : List Cell), vs = [.ref o] ∧ AgB C o S Z ∧ Hd H (Z ++ R) ∧ (readyL S = [] → ∀ H', Hd H' (Z ++ R) → Q .non H') ∧ ∀ (p : Nat) Z' H', IsPick S p → AgB C o (pickS S p) Z' → Hd H' (Z' ++ R) → Q (.int p) H'
theorem c_pickA {g : Addr} (T : Txt K mg aREG aOPS) (L : AgC K C) (d : MetAt K C "pick" "Ages.pick" s_Ages__pick) (Fst : FnR P w K mg base C8.CX0 3 g (sp_mbI C stdI)) (hbm : BMeth K C "_standing" g) : C8.Met P w K mg base 5 C "pick" (sp_pickA C) [] := by
  refine mkM d sc_Ages__pick (fun _ _ _ _ _ _ us hl => match us, hl with | [_], _ => rfl) (fun vs H Q E h => ?_) (fun fa cdv A outer s H vs Q E hr h => ?_)
  · obtain ⟨o, S, Z, R, rfl, _⟩ := h
    rfl
  · obtain ⟨o, S, Z, R, rfl, hb, hh, q0, q⟩ := h
    have hu : (A.deeper (envOfC "Ages.pick" (defScope s_Ages__pick) s.heap.objs.size fa cdv)).units + 1 < cLine := by have := hr.un; omega
    have hcl : Cls K C := L.cl
    refine ⟨_, (pss_cons (ps_setLc (i := 2) (own := [("pid", 1)]) rfl sc_Ages__pick.nd rfl rfl (sw_true rfl rfl rfl (by decide +kernel)) (pi_list (pe_callB cr_sorted (by rfl) T.b_sorted (by decide +kernel) (pa_cons (pe_callTy (call_list_dK rfl) (by rfl) T.b_list (by decide +kernel) (pa_cons (pe_fld (pv 0) rfl) pa_nil)) pa_nil))) (blkOk_by (own := [("pid", 1)]) (N := nm_Ages__pick) (sc := defScope s_Ages__pick) (by decide +kernel)) (fun _ _ _ _ _ => (pg_name (i := 1) sc_Ages__pick.nd rfl (Or.inl rfl))) (fun _ _ _ _ _ => (pts_one (pt_val (pe_ix (show IxR _ (rIxL K) from ix_list) (pe_dget hu (show PE _ _ (tFld K (tVar 0) (Str.ofString "_members")) from pe_fld (pv 0) rfl) (pv 1) (fun _ _ => rfl)) pe_int (fun _ _ => rfl))))) (fun _ _ _ _ _ => (pv 1)))
  (pss_cons (ps_if (pt_not (pt_truth (pv 2) (by intro _; rfl)))
    (pss_one (ps_ret pe_non))
    pss_nil)
  (pss_cons (ps_set (i := 3) sc_Ages__pick.nd rfl (Or.inl rfl) (pe_callBK (cr_maxK Fst (hr.mono (by first | decide | omega))) (by rfl) T.b_max (by decide +kernel) (pa_cons (pv 2) pa_nil) (pk_cons (Wk.pe_bnd hcl hbm (pv 0)) pk_nil)))
  (pss_cons (ps_for PassesOwn.never rfl (pi_list (pv 2)) (pg_name (i := 1) sc_Ages__pick.nd rfl (Or.inl rfl))
    (pss_one (ps_augS (pe_dget hu (show PE _ _ (tFld K (tVar 0) (Str.ofString "_members")) from pe_fld (pv 0) rfl) (pv 1) (fun _ _ => rfl)) pe_int Wk.get_list pe_int ip_add set_list)))
  (pss_cons (ps_asg pe_int (pg_sub (pe_dget hu (show PE _ _ (tFld K (tVar 0) (Str.ofString "_members")) from pe_fld (pv 0) rfl) (pv 3) (fun _ _ => rfl)) pe_int set_list))
  (pss_one (ps_ret (pv 3)))))))), ?_⟩
    have hc := L.cl
    have nm := L.nm
    have hb2 := hb
    obtain ⟨d, Z1, tb, rfl⟩ := hb
    have h1 : Hd H (agI o C d :: (Z1 ++ R)) := hh
    have hkl := keys_len S
    walk_at "gs"
    refine g_keys tb (by decide) h1 (fun kv X e => by rw [e]; exact List.mem_cons_of_mem _ (List.mem_cons_self ..)) fun p H2 h2 => ?_
    walk_at "gs"
    refine g_lcLF h2 (h2.sqL (List.mem_cons_self ..)) (fun i D H => Hd H (lstC D (natV (((keys8 S).take i).filter (rdyB S))) :: lstC p (natV (keys8 S)) :: (agI o C d :: (Z1 ++ R)))) (fun D H1 h1 => h1) (fun i D H _ h => h.sqL (by walk_at "mem")) ?_ ?_
    · rintro i x D H3 hx h3
      unfold natV at hx
      rw [List.getElem?_map] at hx
      cases hw : (keys8 S)[i]? with
      | none => rw [hw] at hx; cases hx
      | some k =>
        rw [hw] at hx
        cases hx
        have hks := (keysS_mem.mp (List.mem_of_getElem? hw)).2
        obtain ⟨m, hm⟩ : ∃ m, S k = some m := Option.isSome_iff_exists.mp hks
        obtain ⟨ad, kv, X, hv, op, _⟩ := tb.open hm
        have h4 : Hd H3 (dctC d kv :: lstC ad (mbV m) :: (X ++ (lstC D (natV (((keys8 S).take i).filter (rdyB S))) :: lstC p (natV (keys8 S)) :: (agI o C d :: R)))) := (op _ _).mp (Hd.sb h3 (by walk_at "sbx"))
        have hfl : (((keys8 S).take i).filter (rdyB S)).length ≤ 8 := Nat.le_trans (List.length_filter_le _ _) (Nat.le_trans (List.length_take_le' ..) hkl)
        have hsz : (natV (((keys8 S).take i).filter (rdyB S))).length < sizeLine := by rw [natV_len]; exact Nat.lt_of_le_of_lt hfl (by decide)
        have e1 : ((keys8 S).take (i + 1)).filter (rdyB S) = ((keys8 S).take i).filter (rdyB S) ++ [k].filter (rdyB S) := by rw [tk_succ hw, List.filter_append]
        have e2 : rdyB S k = m.ready := by unfold rdyB; rw [hm]; rfl
        clear h1 h2
        walk_at "gs"
        refine g_dget (k := .inl (k : Int)) h4 (by walk_at "mem") rfl hv ?_
        walk_at "gs"
        rw [e1]
        rw [show [k].filter (rdyB S) = if m.ready = true then [k] else [] by rw [List.filter_cons, e2]; rfl]
        cases hr2 : m.ready with
        | true =>
          rw [if_pos rfl, if_pos rfl]
          walk_at "gs"
          show KApp D _ (V.int (k : Int)) H3
          refine w_kapp (h4.lst (by walk_at "mem")) hsz fun H5 c5 => ?_
          have h5 := h4.chgL (by walk_at "pk") c5
          have e3 : natV (((keys8 S).take i).filter (rdyB S) ++ [k]) = natV (((keys8 S).take i).filter (rdyB S)) ++ [V.int (k : Int)] := List.map_append
          rw [e3]
          have h5 : Hd H5 (lstC D (natV (((keys8 S).take i).filter (rdyB S)) ++ [V.int (k : Int)]) :: dctC d kv :: lstC ad (mbV m) :: (X ++ (lstC p (natV (keys8 S)) :: agI o C d :: R))) := Hd.sb h5 (by walk_at "sbx")
          have h6 := (op H5 (lstC D (natV (((keys8 S).take i).filter (rdyB S)) ++ [V.int (k : Int)]) :: lstC p (natV (keys8 S)) :: agI o C d :: R)).mpr (Hd.sb h5 (by walk_at "sbx"))
          exact Hd.sb h6 (by walk_at "sbx")
        | false =>
          rw [if_neg (by decide), if_neg (by decide), List.append_nil]
          exact h3
    · intro D H3 h3
      rw [natV_len, List.take_length] at h3
      have h3 : Hd H3 (lstC D (natV (readyL S)) :: lstC p (natV (keys8 S)) :: agI o C d :: (Z1 ++ R)) := h3
      walk_at "gs"
      cases hrl : readyL S with
      | nil =>
        rw [hrl] at h3
        refine ⟨false, .inl ⟨_, h3.sqL (List.mem_cons_self ..), rfl⟩, ?_⟩
        walk_at "gs"
        exact q0 hrl _ (show Hd H3 (agI o C d :: (Z1 ++ R)) from Hd.sb h3 (by walk_at "sbx"))
      | cons z zs =>
        have hlen : 0 < (natV (readyL S)).length := by rw [hrl]; exact Nat.succ_pos _
        refine ⟨true, .inl ⟨_, h3.sqL (List.mem_cons_self ..), by rw [hrl]; rfl⟩, ?_⟩
        walk_at "gs"
        have hat : ∀ (i : Nat) (v : V), (natV (readyL S))[i]? = some v → ∃ (k : Nat) (m : Mb), (readyL S)[i]? = some k ∧ v = .int (k : Int) ∧ S k = some m := fun i v hv => by
          unfold natV at hv
          rw [List.getElem?_map] at hv
          cases hw : (readyL S)[i]? with
          | none => rw [hw] at hv; cases hv
          | some k =>
            rw [hw] at hv
            obtain ⟨m, hm, _⟩ := (ready_mem.mp (List.mem_of_getElem? hw)).2
            exact ⟨k, m, rfl, (Option.some.inj hv).symm, hm⟩
        obtain ⟨dx, hdx⟩ := h3.ins (a := o) (C := C) (fs := [("_members", .ref d)]) (by walk_at "mem")
        refine w_ckw ?_
        walk_at "gs"
        refine w_bnd ?_
        walk_at "gs"
        refine ⟨o, dx, _, rfl, hdx, rfl, fun b hb0 => ?_⟩
        walk_at "gs"
        have h4 : Hd (upd H3 b (.met g o)) ((b, fun o' => o' = .met g o) :: lstC D (natV (readyL S)) :: lstC p (natV (keys8 S)) :: agI o C d :: (Z1 ++ R)) := h3.new (New.of (o := .met g o) hb0) rfl
        refine ⟨D, b, o, natV (readyL S), fun i => stdS S ((readyL S).getD i 0), rfl, rfl, h4.sqL (by walk_at "mem"), hlen, upd_same, fun i v hv Q' hq => ?_, fun i v hv hmx => ?_⟩
        · obtain ⟨k, m, hk, rfl, hm⟩ := hat i v hv
          refine g_mbI hb2 hm (show Hd _ (agI o C d :: (Z1 ++ ((b, fun o' => o' = .met g o) :: lstC D (natV (readyL S)) :: lstC p (natV (keys8 S)) :: R))) from Hd.sb h4 (by walk_at "sbx")) ?_
          have e : stdS S ((readyL S).getD i 0) = stdI m := by
            rw [List.getD_eq_getElem?_getD, hk]
            unfold stdS
            rw [Option.getD_some, hm]
            rfl
          exact e ▸ hq
        · obtain ⟨k, m, hk, rfl, hm⟩ := hat i v hv
          have hpick : IsPick S k := by
            refine ⟨List.mem_of_getElem? hk, fun q hq => ?_⟩
            obtain ⟨j, hj⟩ := List.getElem?_of_mem hq
            have hjl : j < (natV (readyL S)).length := by rw [natV_len]; exact (List.getElem?_eq_some_iff.mp hj).1
            have h5 := hmx j hjl
            have ek : (readyL S).getD i 0 = k := by rw [List.getD_eq_getElem?_getD, hk]; rfl
            have ej : (readyL S).getD j 0 = q := by rw [List.getD_eq_getElem?_getD, hj]; rfl
            simp only [ek, ej] at h5
            exact ⟨h5.1, fun hlt => h5.2 ((asc_at (ready_asc S) hj hk).mpr hlt)⟩
          generalize upd H3 b (HO.met g o) = H4 at h4 ⊢
          have h5 : Hd H4 ((agI o C d :: Z1) ++ (lstC D (natV (readyL S)) :: R)) := show Hd H4 (agI o C d :: (Z1 ++ (lstC D (natV (readyL S)) :: R))) from Hd.sb h4 (by walk_at "sbx")
          clear h1 h2 h3 h4
          walk_at "gs"
          refine l_list (h5.sqL (by walk_at "mem")) (fun i σ H => ∃ (v1 : Option V) (Z' : List Cell), σ = [some (.ref o), v1, some (.ref D), some (.int (k : Int))] ∧ AgB C o (agedS S ((readyL S).take i)) Z' ∧ Hd H (Z' ++ (lstC D (natV (readyL S)) :: R))) ⟨_, _, rfl, (aged_nil S).symm ▸ hb2, h5⟩ (fun i σ H _ h => by obtain ⟨_, _, _, _, h⟩ := h; exact h.sqL (by walk_at "mem")) ?_ ?_
          · rintro i y σ H6 hy ⟨v1, Z', rfl, hb6, h6⟩
            obtain ⟨k', m', hk', rfl, hm'⟩ := hat i y hy
            have hnt : k' ∉ (readyL S).take i := fun z => by
              obtain ⟨j, hj⟩ := List.getElem?_of_mem z
              rw [List.getElem?_take] at hj
              by_cases hji : j < i
              · rw [if_pos hji] at hj
                exact absurd ((asc_at (ready_asc S) hj hk').mp hji) (Nat.lt_irrefl _)
              · rw [if_neg hji] at hj
                cases hj
            have hmk : agedS S ((readyL S).take i) k' = some m' := by unfold agedS; rw [if_neg hnt, hm']
            have hlt := hb6.lt hmk
            obtain ⟨d', ad, kv, X, hv', op, cl⟩ := hb6.open hmk
            have h7 := (op _ _).mp h6
            walk_at "gs"
            refine g_dget (k := .inl (k' : Int)) h7 (by walk_at "mem") rfl hv' ?_
            walk_at "gs"
            rename_i H8 h8
            obtain ⟨Z'', hb7, cl'⟩ := cl (agedM m')
            rw [aged_snoc hm' hnt, ← tk_succ hk'] at hb7
            refine ⟨_, Z'', rfl, hb7, cl' _ _ (Hd.sb (hdCast (c' := lstC ad (mbV (agedM m'))) h8 rfl) (by walk_at "sbx"))⟩
          · rintro σ H6 ⟨v1, Z', rfl, hb6, h6⟩
            rw [natV_len, List.take_length] at hb6
            have hmk : agedS S (readyL S) k = some (agedM m) := by unfold agedS; rw [if_pos hpick.1, hm]; rfl
            have hlt := hb6.lt hmk
            obtain ⟨d', ad, kv, X, hv', op, cl⟩ := hb6.open hmk
            have h7 := (op _ _).mp h6
            walk_at "gs"
            refine g_dget (k := .inl (k : Int)) h7 (by walk_at "mem") rfl hv' ?_
            walk_at "gs"
            rename_i H8 h8
            obtain ⟨Z'', hb7, cl'⟩ := cl { m with age := 0 }
            have e9 : upS (agedS S (readyL S)) k (some { m with age := 0 }) = pickS S k := by unfold pickS; rw [hm]; rfl
            rw [e9] at hb7
            have h9 := cl' H8 (lstC D (natV (readyL S)) :: R) (Hd.sb (hdCast (c' := lstC ad (mbV { m with age := 0 })) h8 rfl) (by walk_at "sbx"))
            exact q k Z'' H8 hpick hb7 (Hd.sb h9 (by walk_at "sbx"))
end
end
end K24
set_option Elab.async false
set_option linter.all false
set_option maxRecDepth 100000
set_option maxHeartbeats 4000000
namespace K24
open PySem PySem.Spec PyProof.Rows L2 Wk
local macro_rules | `(tactic| walk_at "u1") => `(tactic| fail "no more")
local macro_rules | `(tactic| walk_at "pos") => `(tactic| first | assumption | omega | decide | (simp only [Int.ofNat_eq_natCast] at *; omega))
local macro_rules | `(tactic| walk_at "sz") => `(tactic| first
  | (simp only [List.length_cons, List.length_nil]; decide)
  | exact Evl.sz_of (by omega)
  | exact Evl.sz_lt (by omega)
  | exact Evl.sz_of (by simp only [List.length_map, List.length_append, List.length_cons, List.length_nil, List.length_replicate]; omega)
  | exact Evl.sz_lt (by simp only [List.length_map, List.length_append, List.length_cons, List.length_nil, List.length_replicate]; omega))
local macro_rules | `(tactic| walk_at "cond") => `(tactic| first
  | exact Or.inr ⟨by decide, by decide⟩
  | (show (0 : Int) < _; first | decide | assumption | omega)
  | exact Or.inl ⟨by omega, by omega⟩
  | exact Or.inr ⟨by omega, by omega⟩
  | exact ⟨by decide, by decide, by decide⟩
  | exact log2_lt (by omega) (by omega)
  | exact ⟨by omega, by omega⟩)
local macro_rules | `(tactic| walk_at "ty") => `(tactic| first
  | exact ty_int | exact ty_bl | exact ty_str | exact ty_non
  | exact ty_L (by assumption) | exact ty_T (by assumption)
  | exact ty_L (SqL.of (by assumption)) | exact ty_T (SqT.of (by assumption)))
local macro_rules | `(tactic| walk_at "kit") => `(tactic| first
  | exact k_ii | exact k_ib | exact k_is | exact k_il | exact k_it
  | exact k_bb | exact k_bi | exact k_bs | exact k_bl | exact k_bt
  | exact k_ss | exact k_sb | exact k_si | exact k_sl | exact k_st
  | exact k_ll | exact k_lb | exact k_li | exact k_ls | exact k_lt
  | exact k_tt | exact k_tb | exact k_ti | exact k_ts | exact k_tl
  | exact k_nn | exact k_ni | exact k_ns | exact k_nl | exact k_nt)
local macro_rules | `(tactic| walk_at "s1") => `(tactic| first
  | with_reducible refine w_seq ?_
  | with_reducible refine w_set ?_
  | with_reducible refine w_op ?_
  | ((with_reducible refine' w_var ?h1 ?_); (case h1 => rfl))
  | with_reducible refine w_c ?_
  | with_reducible refine w_cb ?_
  | with_reducible refine w_cons ?_
  | with_reducible refine w_nil ?_
  | with_reducible refine w_I0 ?_
  | ((with_reducible refine' w_I ?c1 ?_); case c1 => walk_at "cond")
  | with_reducible refine w_ret ?_
  | with_reducible refine w_next ?_
  | with_reducible refine w_ifS ?_
  | with_reducible refine w_test ?_
  | with_reducible refine w_tB ?_
  | with_reducible refine w_k ?_
  | with_reducible refine w_eqI ?_
  | with_reducible refine w_neI ?_
  | with_reducible refine w_eqS ?_
  | with_reducible refine w_neS ?_
  | with_reducible refine w_and ?_
  | with_reducible refine w_or ?_
  | with_reducible refine w_not ?_
  | with_reducible refine w_andV ?_
  | with_reducible refine w_orV ?_
  | with_reducible refine w_notV ?_
  | with_reducible refine w_ifE ?_
  | with_reducible refine w_true ?_
  | with_reducible refine w_false ?_
  | with_reducible refine w_ntrue ?_
  | with_reducible refine w_nfalse ?_
  | with_reducible refine w_call ?_
  | with_reducible refine c_int ?_
  | with_reducible refine c_abs ?_
  | with_reducible refine c_max ?_
  | with_reducible refine c_min ?_
  | with_reducible refine w_drop ?_
  | with_reducible refine w_sfld ?_
  | with_reducible refine w_meth ?_
  | with_reducible refine w_make ?_
  | with_reducible refine w_prop ?_
  | with_reducible refine w_callK ?_
  | with_reducible refine w_callN ?_
  | with_reducible refine w_star ?_
  | with_reducible refine w_gcons ?_
  | with_reducible refine w_gname ?_
  | with_reducible refine w_gnil ?_
  | with_reducible refine w_retN ?_
  | with_reducible refine w_tup ?_
  | with_reducible refine w_lst ?_
  | with_reducible refine w_fld ?_
  | with_reducible refine w_bm ?_
  | with_reducible refine w_bm0 ?_
  | with_reducible refine w_forL ?_
  | with_reducible refine w_forT ?_
  | with_reducible refine w_forS ?_
  | with_reducible refine w_forR ?_
  | with_reducible refine w_lcR ?_
  | with_reducible refine w_lcL ?_
  | with_reducible refine w_lcT ?_
  | with_reducible refine w_isN ?_
  | with_reducible refine w_notN ?_
  | with_reducible refine w_asg ?_
  | with_reducible refine w_gsub ?_
  | ((with_reducible refine' w_aug ?h1 ?_); (case h1 => rfl))
  | with_reducible refine w_augS ?_
  | with_reducible refine w_ipI ?_
  | with_reducible refine w_un ?_
  | with_reducible refine w_U ?_
  | ((with_reducible refine' w_iteF ?f1 ?_); case f1 => (first | (intro h; cases h; done) | decide))
  | ((with_reducible refine' w_iteT ?f1 ?_); case f1 => rfl)
  | ((with_reducible refine' w_iteNF ?f1 ?_); case f1 => rfl)
  | ((with_reducible refine' w_iteNT ?f1 ?_); case f1 => (first | (intro h; cases h; done) | decide))
  | ((with_reducible refine' c_isi ?t1 ?k1 ?_); (case t1 => walk_at "ty"); (case k1 => walk_at "kit"))
  | ((with_reducible refine' w_eq ?e1 ?_); case e1 => rfl)
  | ((with_reducible refine' w_ne ?e1 ?_); case e1 => rfl)
  | walk_at "u1")
local macro_rules | `(tactic| walk_at "s") => `(tactic| repeat walk_at "s1")
local macro_rules | `(tactic| walk_at "mem") => `(tactic| first | with_reducible exact List.mem_cons_self .. | ((with_reducible refine' List.mem_cons_of_mem _ ?q); (case q => walk_at "mem")) | assumption | ((with_reducible refine' List.mem_append_right _ ?q); (case q => walk_at "mem")) | (exact List.mem_append_left _ (by assumption)))
local macro_rules | `(tactic| walk_at "pk") => `(tactic| first | with_reducible exact Pk.here | ((with_reducible refine' Pk.there ?q); (case q => walk_at "pk")) | ((with_reducible refine' Pk.app ?q); (case q => walk_at "pk")))
local macro_rules | `(tactic| walk_at "pkb") => `(tactic| first | with_reducible exact PkB.here | ((with_reducible refine' PkB.there ?q); (case q => walk_at "pkb")) | ((with_reducible refine' PkB.app ?q); (case q => walk_at "pkb")))
local macro_rules | `(tactic| walk_at "spl") => `(tactic| first | with_reducible exact Spl.nil | ((with_reducible refine' Spl.cons ?h ?t); (case h => walk_at "pk"); (case t => walk_at "spl")) | ((with_reducible refine' Spl.blk ?h ?t); (case h => walk_at "pkb"); (case t => walk_at "spl")))
local macro_rules | `(tactic| walk_at "sbx") => `(tactic| first | with_reducible exact Sb.refl | with_reducible exact Sb.nil | with_reducible exact Sb.left | ((with_reducible refine' Sb.cons ?h ?t); (case h => walk_at "pk"); (case t => walk_at "sbx")) | ((with_reducible refine' Sb.blk ?h ?t); (case h => walk_at "pkb"); (case t => walk_at "sbx")) | ((with_reducible refine' Sb.drop ?q); (case q => walk_at "sbx")) | ((with_reducible refine' Sb.right ?q); (case q => walk_at "sbx")))
local macro_rules | `(tactic| walk_at "hd") => `(tactic| first | assumption | exact Hd.sb (by assumption) (by walk_at "sbx"))
local macro_rules | `(tactic| walk_at "sq") => `(tactic| first
  | assumption
  | exact Hd.sqL (by assumption) (by walk_at "mem")
  | exact Hd.sqT (by assumption) (by walk_at "mem")
  | exact Hd.sqF (by assumption) (by walk_at "mem")
  | (refine .inl ?_; walk_at "sq")
  | (refine .inr ?_; walk_at "sq"))
local macro_rules | `(tactic| walk_at "at") => `(tactic| first | rfl | assumption | exact atI_nat (by assumption))
local macro_rules | `(tactic| walk_at "dn1") => `(tactic| first
  | exact Dn.int | exact Dn.str | exact Dn.non | exact Dn.bl | assumption
  | ((refine' Dn.tp ?a1 ?m1 ?l1 ?p1); (case a1 => assumption); (case m1 => walk_at "mem"); (case l1 => (simp only [List.length_cons, List.length_nil]; omega)); (case p1 => walk_at "dns"))
  | ((refine' Dn.lt ?a1 ?m1 ?l1 ?p1); (case a1 => assumption); (case m1 => walk_at "mem"); (case l1 => (simp only [List.length_cons, List.length_nil]; omega)); (case p1 => walk_at "dns")))
local macro_rules | `(tactic| walk_at "dns") => `(tactic| first | exact Paired.nil | exact Dn.ints | ((refine' Paired.cons ?a1 ?b1); (case a1 => walk_at "dn1"); (case b1 => walk_at "dns")))
local macro_rules | `(tactic| walk_at "g1") => `(tactic| first
  | ((with_reducible refine' g_ixI ?h1 ?h2 ?h3 ?_); (case h1 => assumption); (case h2 => walk_at "mem"); (case h3 => omega); intro z hz)
  | ((with_reducible refine' g_ixIT ?h1 ?h2 ?h3 ?_); (case h1 => assumption); (case h2 => walk_at "mem"); (case h3 => omega); intro z hz)
  | ((with_reducible refine' g_setI ?h1 ?h2 ?h3 ?_); (case h1 => assumption); (case h2 => walk_at "pk"); (case h3 => omega); intro H2 hh2)
  | ((with_reducible refine' w_ixL ?h1 ?h2 ?_); (case h1 => walk_at "sq"); (case h2 => walk_at "at"))
  | ((with_reducible refine' w_ixT ?h1 ?h2 ?_); (case h1 => walk_at "sq"); (case h2 => walk_at "at"))
  | ((with_reducible refine' w_ixAny ?h1 ?h2 ?_); (case h1 => walk_at "sq"); (case h2 => walk_at "at"))
  | ((with_reducible refine' c_lenA ?h1 ?_); (case h1 => walk_at "sq"))
  | ((with_reducible refine' c_isi ?t1 ?k1 ?_); (case t1 => first | exact ty_T (by walk_at "sq") | exact ty_L (by walk_at "sq")); (case k1 => walk_at "kit"))
  | ((with_reducible refine' g_lst ?h1 ?h2 ?_); (case h1 => assumption); (case h2 => walk_at "sz"); intro p H2 hh2)
  | ((with_reducible refine' g_tup ?h1 ?h2 ?_); (case h1 => assumption); (case h2 => walk_at "sz"); intro p H2 hh2)
  | ((with_reducible refine' g_dict ?h1 ?_); (case h1 => assumption); intro p H2 hh2)
  | ((with_reducible refine' g_listL ?h1 ?h2 ?_); (case h1 => assumption); (case h2 => walk_at "sq"); intro p H2 hh2)
  | ((with_reducible refine' g_listT ?h1 ?h2 ?_); (case h1 => assumption); (case h2 => walk_at "sq"); intro p H2 hh2)
  | ((with_reducible refine' g_tupL ?h1 ?h2 ?_); (case h1 => assumption); (case h2 => walk_at "sq"); intro p H2 hh2)
  | ((with_reducible refine' g_set ?h1 ?h2 ?h3 ?_); (case h1 => assumption); (case h2 => walk_at "pk"); (case h3 => first | rfl | assumption | exact Evl.ixN_nat (by first | omega | (simp only [List.length_cons, List.length_nil]; omega))); intro H2 hh2)
  | ((with_reducible refine' g_kbm ?h1 ?h2 ?_); (case h1 => assumption); (case h2 => walk_at "mem"))
  | ((with_reducible refine' g_kbm0 ?h1 ?h2 ?_); (case h1 => assumption); (case h2 => walk_at "mem"))
  | ((with_reducible refine' g_app ?h1 ?h2 ?h3 ?_); (case h1 => assumption); (case h2 => walk_at "pk"); (case h3 => walk_at "sz"); intro H2 hh2)
  | ((with_reducible refine' g_kapp ?h1 ?h2 ?h3 ?_); (case h1 => assumption); (case h2 => walk_at "pk"); (case h3 => walk_at "sz"); intro H2 hh2)
  | ((with_reducible refine' g_fld ?h1 ?h2 ?h3 ?h4 ?h5 ?_); (case h1 => assumption); (case h2 => walk_at "mem"); (case h3 => assumption); (case h4 => assumption); (case h5 => rfl))
  | ((with_reducible refine' g_sfld ?h1 ?h2 ?h3 ?h4 ?h5 ?_); (case h1 => assumption); (case h2 => walk_at "pk"); (case h3 => assumption); (case h4 => assumption); (case h5 => decide); intro H2 hh2)
  | ((with_reducible refine' g_meth ?h1 ?h2 ?h3 ?_); (case h1 => assumption); (case h2 => walk_at "mem"); (case h3 => rfl))
  | ((with_reducible refine' g_prop ?h1 ?h2 ?_); (case h1 => assumption); (case h2 => walk_at "mem"))
  | ((with_reducible refine' g_make ?h1 ?_); (case h1 => assumption); intro x H2 hh2)
  | ((with_reducible refine' g_cat ?h1 ?h2 ?h3 ?h4 ?_); (case h1 => assumption); (case h2 => walk_at "mem"); (case h3 => walk_at "mem"); (case h4 => walk_at "sz"); intro p H2 hh2)
  | ((with_reducible refine' g_inT ?h1 ?h2 ?h3 ?h4 ?h5 ?_); (case h1 => assumption); (case h2 => walk_at "mem"); (case h3 => rfl); (case h4 => rfl); (case h5 => rfl)))
local macro_rules | `(tactic| walk_at "gs") => `(tactic| repeat first | walk_at "s1" | walk_at "g1")
local macro_rules | `(tactic| walk_at "ite") => `(tactic| first
  | ((with_reducible refine' w_iteT ?h1 ?_); (case h1 => omega))
  | ((with_reducible refine' w_iteF ?h1 ?_); (case h1 => omega))
  | (with_reducible refine w_ite ?_ ?_ <;> intro hq)
  | ((with_reducible refine' w_iteNT ?h1 ?_); (case h1 => omega))
  | ((with_reducible refine' w_iteNF ?h1 ?_); (case h1 => omega))
  | (with_reducible refine w_iteN ?_ ?_ <;> intro hq))
local macro_rules | `(tactic| walk_at "go") => `(tactic| repeat' first | walk_at "s1" | walk_at "g1" | walk_at "ite")
local macro_rules | `(tactic| walk_at "g1") => `(tactic| first
  | ((with_reducible refine' g_take1 ?h1 ?h2 ?h3 ?h4 ?_); (case h1 => assumption); (case h2 => walk_at "spl"); (case h3 => omega); (case h4 => omega); intro k H2 hk1 hh2)
  | ((with_reducible refine' g_take ?h1 ?h2 ?h4 ?_); (case h1 => assumption); (case h2 => walk_at "spl"); (case h4 => omega); intro k H2 hk1 hh2)
  | ((with_reducible refine' g_betweenN ?h1 ?h2 ?h5 ?h3 ?h4 ?_); (case h1 => assumption); (case h2 => walk_at "spl"); (case h5 => omega); (case h3 => omega); (case h4 => omega); intro k H2 hk1 hk2 hh2)
  | ((with_reducible refine' g_between ?h1 ?h2 ?h3 ?h4 ?_); (case h1 => assumption); (case h2 => walk_at "spl"); (case h3 => omega); (case h4 => omega); intro k H2 hk1 hk2 hh2)
  | ((with_reducible refine' g_size ?h1 ?h2 ?h3 ?h4 ?_); (case h1 => assumption); (case h2 => walk_at "spl"); (case h3 => omega); (case h4 => omega); intro k H2 hk1 hh2)
  | ((with_reducible refine' g_word ?h1 ?h2 ?_); (case h1 => assumption); (case h2 => walk_at "spl"); intro k H2 hk1 hh2))
local macro_rules | `(tactic| walk_at "g1") => `(tactic| first | with_reducible refine w_sl ?_ | with_reducible refine w_part ?_ | with_reducible refine w_noPart ?_ | with_reducible refine w_exI ?_)
local macro_rules | `(tactic| walk_at "g1") => `(tactic| first | with_reducible refine w_din ?_ | with_reducible refine w_dnotin ?_ | with_reducible refine w_dget ?_ | with_reducible refine w_dput ?_ | with_reducible refine w_ddel ?_ | with_reducible refine w_dpop ?_)
section
variable {P : Program} {w : World} {K : PySem.W.Frag} {mg : Str → Option Value} {base : Heap} {aREG aOPS : Addr}
theorem natV_flat (xs : List Nat) : (natV xs).all flatV = true := by
  rw [List.all_eq_true]
  intro v hv
  unfold natV at hv
  obtain ⟨k, _, rfl⟩ := List.mem_map.mp hv
  rfl
theorem w_nin {K : PySem.W.Frag} {H : Hp} {Q : VK} {x : V} {p : Addr} {xs : List V} {b : Bool} (h : SqL K H p xs) (fx : flatV x = true) (fs : xs.all flatV = true) (e : inV x xs = b) (q : Q (.bl (!b)) H) : rIn K true x (.ref p) H Q := ⟨p, xs, rfl, .inl h, fx, fs, by rw [if_pos rfl, e]; exact q⟩
def sp_fresh (K : PySem.W.Frag) : Sp := fun vs H Q _ => ∃ (n m : Nat) (a : Addr) (xs : List Nat), vs = [.int n, .ref a, .int m] ∧ n < m ∧ m ≤ 1000 ∧ xs.length ≤ 1000 ∧ SqL K H a (natV xs) ∧ ∀ p : Nat, p < m → Q (.int p) H
theorem c_fresh (T : Txt K mg aREG aOPS) (d : DefAt K mg "_law_fresh" s__law_fresh) : C8.Cal P w K mg base 1 "_law_fresh" (sp_fresh K) [] := by
  refine mk d sc__law_fresh (fun _ _ _ _ _ _ us hl => match us, hl with | [_, _, _], _ => rfl) (fun vs H Q E h => ?_) (fun fa cdv A outer s H vs Q E hr h => ?_)
  · obtain ⟨n, m, a, xs, rfl, _⟩ := h
    rfl
  · obtain ⟨n, m, a, xs, rfl, hn, hm, hx, hs, q⟩ := h
    refine ⟨_, (pss_cons (ps_for PassesOwn.never rfl (pi_range1 rfl T.b_range (pa_cons (pe_op op_add (pe_callB Wk.b_len (by rfl) T.b_len (by decide +kernel) (pa_cons (pv 1) pa_nil)) pe_int) pa_nil)) (pg_name (i := 3) sc__law_fresh.nd rfl (Or.inl rfl))
    (pss_cons (ps_set (i := 4) sc__law_fresh.nd rfl (Or.inl rfl) (pe_op op_mod (pe_callTy Wk.b_int (by rfl) T.b_int (by decide +kernel) (pa_cons (pe_op op_add (pv 0) (pv 3)) pa_nil)) (pv 2)))
      (pss_one (ps_if (pt_cmpR op_notIn_seq (pv 4) (pv 1) (by rfl))
        (pss_one (ps_ret (pv 4)))
        pss_nil))))
  (pss_one (ps_ret (pv 0)))), ?_⟩
    walk_at "gs"
    refine l_range (m := xs.length + 1) (by rw [natV_len]; rfl) (by omega) (fun i σ H' => H' = H ∧ ∃ v3 v4 : Option V, σ = [some (.int n), some (.ref a), some (.int m), v3, v4]) ⟨rfl, _, _, rfl⟩ ?_ ?_
    · rintro i σ H' hi ⟨rfl, v3, v4, rfl⟩
      have e : ((n : Int) + (i : Int)) % (m : Int) = (((n + i) % m : Nat) : Int) := by push_cast; rfl
      walk_at "gs"
      rw [e]
      refine w_nin hs rfl (natV_flat xs) rfl ?_
      walk_at "gs"
      cases inV (V.int (((n + i) % m : Nat) : Int)) (natV xs) with
      | true =>
        walk_at "gs"
        exact ⟨rfl, _, _, rfl⟩
      | false =>
        walk_at "gs"
        exact q _ (Nat.mod_lt _ (by omega))
    · rintro σ H' ⟨rfl, v3, v4, rfl⟩
      walk_at "gs"
      exact q n hn
def sp_distinct (K : PySem.W.Frag) : Sp := fun vs H Q _ => ∃ (st c : Addr) (n : Nat) (R : List Cell), vs = [.ref st, .int 8, .int n] ∧ 0 < n ∧ n ≤ 8 ∧ Hd H (stoC st c :: scrC c :: R) ∧ ∀ p (xs : List Nat) H', 0 < xs.length → xs.length ≤ 8 → (∀ k ∈ xs, k < 8) → Hd H' (lstC p (natV xs) :: stoC st c :: scrC c :: R) → Q (.ref p) H'
theorem c_distinct (T : Txt K mg aREG aOPS) (d : DefAt K mg "_law_distinct" s__law_distinct) (c__law_take : C8.Cal P w K mg base 2 "_law_take" sp_take []) (c__law_fresh : C8.Cal P w K mg base 1 "_law_fresh" (sp_fresh K) []) : C8.Cal P w K mg base 3 "_law_distinct" (sp_distinct K) [] := by
  refine mk d sc__law_distinct (fun _ _ _ _ _ _ us hl => match us, hl with | [_, _, _], _ => rfl) (fun vs H Q E h => ?_) (fun fa cdv A outer s H vs Q E hr h => ?_)
  · obtain ⟨st, c, n, R, rfl, _⟩ := h
    rfl
  · obtain ⟨st, c, n, R, rfl, h0, h8, hh, q⟩ := h
    refine ⟨_, (pss_cons (ps_set (i := 3) sc__law_distinct.nd rfl (Or.inl rfl) (pe_lst pa_nil))
  (pss_cons (ps_for PassesOwn.never rfl (pi_range1 rfl T.b_range (pa_cons (pe_callB (Wk.b_min rfl) (by rfl) T.b_min (by decide +kernel) (pa_cons (pv 2) (pa_cons (pv 1) pa_nil))) pa_nil)) (pg_name (i := 4) sc__law_distinct.nd rfl (Or.inl rfl))
    (pss_one (ps_expr (pe_bm PySem.F.plainAttrs_list PySem.F.slot_list_append PySem.F.type_list_append mt_append (pv 3) (pa_cons (C8.pe_c c__law_fresh hr (by first | decide | omega) rfl (pa_cons (C8.pe_c c__law_take hr (by first | decide | omega) rfl (pa_cons (pv 0) (pa_cons (pv 1) pa_nil))) (pa_cons (pv 3) (pa_cons (pv 1) pa_nil)))) pa_nil)))))
  (pss_one (ps_ret (pv 3))))), ?_⟩
    walk_at "gs"
    rename_i p H2 h2
    refine l_range (m := n) (by split <;> omega) (by omega) (fun i σ H => ∃ (xs : List Nat) (v4 : Option V), σ = [some (.ref st), some (.int 8), some (.int n), some (.ref p), v4] ∧ xs.length = i ∧ i ≤ n ∧ (∀ k ∈ xs, k < 8) ∧ Hd H (lstC p (natV xs) :: stoC st c :: scrC c :: R)) ⟨[], _, rfl, rfl, by omega, fun k hk => (List.not_mem_nil hk).elim, h2⟩ ?_ ?_
    · rintro i σ H3 hi ⟨xs, v4, rfl, hl, _, hk, h3⟩
      walk_at "gs"
      rename_i kk H4 hkk h4
      have h5 : Hd H4 (lstC p (natV xs) :: stoC st c :: scrC c :: R) := Hd.sb h4 (by walk_at "sbx")
      clear h3 h4
      have hnl := natV_len xs
      refine ⟨kk, 8, p, xs, rfl, by omega, by decide, by omega, h5.sqL (List.mem_cons_self ..), fun r hr8 => ?_⟩
      walk_at "gs"
      rename_i H6 h6
      refine ⟨xs ++ [r], _, rfl, by rw [List.length_append, hl]; rfl, by omega, fun k hk' => (List.mem_append.mp hk').elim (hk k) fun e => by rw [List.mem_singleton.mp e]; exact hr8, ?_⟩
      rw [show natV (xs ++ [r]) = natV xs ++ [V.int (r : Int)] from List.map_append]
      exact h6
    · rintro σ H3 ⟨xs, v4, rfl, hl, _, hk, h3⟩
      walk_at "gs"
      exact q p xs H3 (by omega) (by omega) hk h3
end
end K24
set_option Elab.async false
set_option linter.all false
set_option maxRecDepth 100000
set_option maxHeartbeats 4000000
namespace K24
open PySem PySem.Spec PyProof.Rows L2 Wk
local macro_rules | `(tactic| walk_at "u1") => `(tactic| fail "no more")
local macro_rules | `(tactic| walk_at "pos") => `(tactic| first | assumption | omega | decide | (simp only [Int.ofNat_eq_natCast] at *; omega))
local macro_rules | `(tactic| walk_at "sz") => `(tactic| first
  | (simp only [List.length_cons, List.length_nil]; decide)
  | exact Evl.sz_of (by omega)
  | exact Evl.sz_lt (by omega)
  | exact Evl.sz_of (by simp only [List.length_map, List.length_append, List.length_cons, List.length_nil, List.length_replicate]; omega)
  | exact Evl.sz_lt (by simp only [List.length_map, List.length_append, List.length_cons, List.length_nil, List.length_replicate]; omega))
local macro_rules | `(tactic| walk_at "cond") => `(tactic| first
  | exact Or.inr ⟨by decide, by decide⟩
  | (show (0 : Int) < _; first | decide | assumption | omega)
  | exact Or.inl ⟨by omega, by omega⟩
  | exact Or.inr ⟨by omega, by omega⟩
  | exact ⟨by decide, by decide, by decide⟩
  | exact log2_lt (by omega) (by omega)
  | exact ⟨by omega, by omega⟩)
local macro_rules | `(tactic| walk_at "ty") => `(tactic| first
  | exact ty_int | exact ty_bl | exact ty_str | exact ty_non
  | exact ty_L (by assumption) | exact ty_T (by assumption)
  | exact ty_L (SqL.of (by assumption)) | exact ty_T (SqT.of (by assumption)))
local macro_rules | `(tactic| walk_at "kit") => `(tactic| first
  | exact k_ii | exact k_ib | exact k_is | exact k_il | exact k_it
  | exact k_bb | exact k_bi | exact k_bs | exact k_bl | exact k_bt
  | exact k_ss | exact k_sb | exact k_si | exact k_sl | exact k_st
  | exact k_ll | exact k_lb | exact k_li | exact k_ls | exact k_lt
  | exact k_tt | exact k_tb | exact k_ti | exact k_ts | exact k_tl
  | exact k_nn | exact k_ni | exact k_ns | exact k_nl | exact k_nt)
local macro_rules | `(tactic| walk_at "s1") => `(tactic| first
  | with_reducible refine w_seq ?_
  | with_reducible refine w_set ?_
  | with_reducible refine w_op ?_
  | ((with_reducible refine' w_var ?h1 ?_); (case h1 => rfl))
  | with_reducible refine w_c ?_
  | with_reducible refine w_cb ?_
  | with_reducible refine w_cons ?_
  | with_reducible refine w_nil ?_
  | with_reducible refine w_I0 ?_
  | ((with_reducible refine' w_I ?c1 ?_); case c1 => walk_at "cond")
  | with_reducible refine w_ret ?_
  | with_reducible refine w_next ?_
  | with_reducible refine w_ifS ?_
  | with_reducible refine w_test ?_
  | with_reducible refine w_tB ?_
  | with_reducible refine w_k ?_
  | with_reducible refine w_eqI ?_
  | with_reducible refine w_neI ?_
  | with_reducible refine w_eqS ?_
  | with_reducible refine w_neS ?_
  | with_reducible refine w_and ?_
  | with_reducible refine w_or ?_
  | with_reducible refine w_not ?_
  | with_reducible refine w_andV ?_
  | with_reducible refine w_orV ?_
  | with_reducible refine w_notV ?_
  | with_reducible refine w_ifE ?_
  | with_reducible refine w_true ?_
  | with_reducible refine w_false ?_
  | with_reducible refine w_ntrue ?_
  | with_reducible refine w_nfalse ?_
  | with_reducible refine w_call ?_
  | with_reducible refine c_int ?_
  | with_reducible refine c_abs ?_
  | with_reducible refine c_max ?_
  | with_reducible refine c_min ?_
  | with_reducible refine w_drop ?_
  | with_reducible refine w_sfld ?_
  | with_reducible refine w_meth ?_
  | with_reducible refine w_make ?_
  | with_reducible refine w_prop ?_
  | with_reducible refine w_callK ?_
  | with_reducible refine w_callN ?_
  | with_reducible refine w_star ?_
  | with_reducible refine w_gcons ?_
  | with_reducible refine w_gname ?_
  | with_reducible refine w_gnil ?_
  | with_reducible refine w_retN ?_
  | with_reducible refine w_tup ?_
  | with_reducible refine w_lst ?_
  | with_reducible refine w_fld ?_
  | with_reducible refine w_bm ?_
  | with_reducible refine w_bm0 ?_
  | with_reducible refine w_forL ?_
  | with_reducible refine w_forT ?_
  | with_reducible refine w_forS ?_
  | with_reducible refine w_forR ?_
  | with_reducible refine w_lcR ?_
  | with_reducible refine w_lcL ?_
  | with_reducible refine w_lcT ?_
  | with_reducible refine w_isN ?_
  | with_reducible refine w_notN ?_
  | with_reducible refine w_asg ?_
  | with_reducible refine w_gsub ?_
  | ((with_reducible refine' w_aug ?h1 ?_); (case h1 => rfl))
  | with_reducible refine w_augS ?_
  | with_reducible refine w_ipI ?_
  | with_reducible refine w_un ?_
  | with_reducible refine w_U ?_
  | ((with_reducible refine' w_iteF ?f1 ?_); case f1 => (first | (intro h; cases h; done) | decide))
  | ((with_reducible refine' w_iteT ?f1 ?_); case f1 => rfl)
  | ((with_reducible refine' w_iteNF ?f1 ?_); case f1 => rfl)
  | ((with_reducible refine' w_iteNT ?f1 ?_); case f1 => (first | (intro h; cases h; done) | decide))
  | ((with_reducible refine' c_isi ?t1 ?k1 ?_); (case t1 => walk_at "ty"); (case k1 => walk_at "kit"))
  | ((with_reducible refine' w_eq ?e1 ?_); case e1 => rfl)
  | ((with_reducible refine' w_ne ?e1 ?_); case e1 => rfl)
  | walk_at "u1")
local macro_rules | `(tactic| walk_at "s") => `(tactic| repeat walk_at "s1")
local macro_rules | `(tactic| walk_at "mem") => `(tactic| first | with_reducible exact List.mem_cons_self .. | ((with_reducible refine' List.mem_cons_of_mem _ ?q); (case q => walk_at "mem")) | assumption | ((with_reducible refine' List.mem_append_right _ ?q); (case q => walk_at "mem")) | (exact List.mem_append_left _ (by assumption)))
local macro_rules | `(tactic| walk_at "pk") => `(tactic| first | with_reducible exact Pk.here | ((with_reducible refine' Pk.there ?q); (case q => walk_at "pk")) | ((with_reducible refine' Pk.app ?q); (case q => walk_at "pk")))
local macro_rules | `(tactic| walk_at "pkb") => `(tactic| first | with_reducible exact PkB.here | ((with_reducible refine' PkB.there ?q); (case q => walk_at "pkb")) | ((with_reducible refine' PkB.app ?q); (case q => walk_at "pkb")))
local macro_rules | `(tactic| walk_at "spl") => `(tactic| first | with_reducible exact Spl.nil | ((with_reducible refine' Spl.cons ?h ?t); (case h => walk_at "pk"); (case t => walk_at "spl")) | ((with_reducible refine' Spl.blk ?h ?t); (case h => walk_at "pkb"); (case t => walk_at "spl")))
local macro_rules | `(tactic| walk_at "sbx") => `(tactic| first | with_reducible exact Sb.refl | with_reducible exact Sb.nil | with_reducible exact Sb.left | ((with_reducible refine' Sb.cons ?h ?t); (case h => walk_at "pk"); (case t => walk_at "sbx")) | ((with_reducible refine' Sb.blk ?h ?t); (case h => walk_at "pkb"); (case t => walk_at "sbx")) | ((with_reducible refine' Sb.drop ?q); (case q => walk_at "sbx")) | ((with_reducible refine' Sb.right ?q); (case q => walk_at "sbx")))
local macro_rules | `(tactic| walk_at "hd") => `(tactic| first | assumption | exact Hd.sb (by assumption) (by walk_at "sbx"))
local macro_rules | `(tactic| walk_at "sq") => `(tactic| first
  | assumption
  | exact Hd.sqL (by assumption) (by walk_at "mem")
  | exact Hd.sqT (by assumption) (by walk_at "mem")
  | exact Hd.sqF (by assumption) (by walk_at "mem")
  | (refine .inl ?_; walk_at "sq")
  | (refine .inr ?_; walk_at "sq"))
local macro_rules | `(tactic| walk_at "at") => `(tactic| first | rfl | assumption | exact atI_nat (by assumption))
local macro_rules | `(tactic| walk_at "dn1") => `(tactic| first
  | exact Dn.int | exact Dn.str | exact Dn.non | exact Dn.bl | assumption
  | ((refine' Dn.tp ?a1 ?m1 ?l1 ?p1); (case a1 => assumption); (case m1 => walk_at "mem"); (case l1 => (simp only [List.length_cons, List.length_nil]; omega)); (case p1 => walk_at "dns"))
  | ((refine' Dn.lt ?a1 ?m1 ?l1 ?p1); (case a1 => assumption); (case m1 => walk_at "mem"); (case l1 => (simp only [List.length_cons, List.length_nil]; omega)); (case p1 => walk_at "dns")))
local macro_rules | `(tactic| walk_at "dns") => `(tactic| first | exact Paired.nil | exact Dn.ints | ((refine' Paired.cons ?a1 ?b1); (case a1 => walk_at "dn1"); (case b1 => walk_at "dns")))
local macro_rules | `(tactic| walk_at "g1") => `(tactic| first
  | ((with_reducible refine' g_ixI ?h1 ?h2 ?h3 ?_); (case h1 => assumption); (case h2 => walk_at "mem"); (case h3 => omega); intro z hz)
  | ((with_reducible refine' g_ixIT ?h1 ?h2 ?h3 ?_); (case h1 => assumption); (case h2 => walk_at "mem"); (case h3 => omega); intro z hz)
  | ((with_reducible refine' g_setI ?h1 ?h2 ?h3 ?_); (case h1 => assumption); (case h2 => walk_at "pk"); (case h3 => omega); intro H2 hh2)
  | ((with_reducible refine' w_ixL ?h1 ?h2 ?_); (case h1 => walk_at "sq"); (case h2 => walk_at "at"))
  | ((with_reducible refine' w_ixT ?h1 ?h2 ?_); (case h1 => walk_at "sq"); (case h2 => walk_at "at"))
  | ((with_reducible refine' w_ixAny ?h1 ?h2 ?_); (case h1 => walk_at "sq"); (case h2 => walk_at "at"))
  | ((with_reducible refine' c_lenA ?h1 ?_); (case h1 => walk_at "sq"))
  | ((with_reducible refine' c_isi ?t1 ?k1 ?_); (case t1 => first | exact ty_T (by walk_at "sq") | exact ty_L (by walk_at "sq")); (case k1 => walk_at "kit"))
  | ((with_reducible refine' g_lst ?h1 ?h2 ?_); (case h1 => assumption); (case h2 => walk_at "sz"); intro p H2 hh2)
  | ((with_reducible refine' g_tup ?h1 ?h2 ?_); (case h1 => assumption); (case h2 => walk_at "sz"); intro p H2 hh2)
  | ((with_reducible refine' g_dict ?h1 ?_); (case h1 => assumption); intro p H2 hh2)
  | ((with_reducible refine' g_listL ?h1 ?h2 ?_); (case h1 => assumption); (case h2 => walk_at "sq"); intro p H2 hh2)
  | ((with_reducible refine' g_listT ?h1 ?h2 ?_); (case h1 => assumption); (case h2 => walk_at "sq"); intro p H2 hh2)
  | ((with_reducible refine' g_tupL ?h1 ?h2 ?_); (case h1 => assumption); (case h2 => walk_at "sq"); intro p H2 hh2)
  | ((with_reducible refine' g_set ?h1 ?h2 ?h3 ?_); (case h1 => assumption); (case h2 => walk_at "pk"); (case h3 => first | rfl | assumption | exact Evl.ixN_nat (by first | omega | (simp only [List.length_cons, List.length_nil]; omega))); intro H2 hh2)
  | ((with_reducible refine' g_kbm ?h1 ?h2 ?_); (case h1 => assumption); (case h2 => walk_at "mem"))
  | ((with_reducible refine' g_kbm0 ?h1 ?h2 ?_); (case h1 => assumption); (case h2 => walk_at "mem"))
  | ((with_reducible refine' g_app ?h1 ?h2 ?h3 ?_); (case h1 => assumption); (case h2 => walk_at "pk"); (case h3 => walk_at "sz"); intro H2 hh2)
  | ((with_reducible refine' g_kapp ?h1 ?h2 ?h3 ?_); (case h1 => assumption); (case h2 => walk_at "pk"); (case h3 => walk_at "sz"); intro H2 hh2)
  | ((with_reducible refine' g_fld ?h1 ?h2 ?h3 ?h4 ?h5 ?_); (case h1 => assumption); (case h2 => walk_at "mem"); (case h3 => assumption); (case h4 => assumption); (case h5 => rfl))
  | ((with_reducible refine' g_sfld ?h1 ?h2 ?h3 ?h4 ?h5 ?_); (case h1 => assumption); (case h2 => walk_at "pk"); (case h3 => assumption); (case h4 => assumption); (case h5 => decide); intro H2 hh2)
  | ((with_reducible refine' g_meth ?h1 ?h2 ?h3 ?_); (case h1 => assumption); (case h2 => walk_at "mem"); (case h3 => rfl))
  | ((with_reducible refine' g_prop ?h1 ?h2 ?_); (case h1 => assumption); (case h2 => walk_at "mem"))
  | ((with_reducible refine' g_make ?h1 ?_); (case h1 => assumption); intro x H2 hh2)
  | ((with_reducible refine' g_cat ?h1 ?h2 ?h3 ?h4 ?_); (case h1 => assumption); (case h2 => walk_at "mem"); (case h3 => walk_at "mem"); (case h4 => walk_at "sz"); intro p H2 hh2)
  | ((with_reducible refine' g_inT ?h1 ?h2 ?h3 ?h4 ?h5 ?_); (case h1 => assumption); (case h2 => walk_at "mem"); (case h3 => rfl); (case h4 => rfl); (case h5 => rfl)))
local macro_rules | `(tactic| walk_at "gs") => `(tactic| repeat first | walk_at "s1" | walk_at "g1")
local macro_rules | `(tactic| walk_at "ite") => `(tactic| first
  | ((with_reducible refine' w_iteT ?h1 ?_); (case h1 => omega))
  | ((with_reducible refine' w_iteF ?h1 ?_); (case h1 => omega))
  | (with_reducible refine w_ite ?_ ?_ <;> intro hq)
  | ((with_reducible refine' w_iteNT ?h1 ?_); (case h1 => omega))
  | ((with_reducible refine' w_iteNF ?h1 ?_); (case h1 => omega))
  | (with_reducible refine w_iteN ?_ ?_ <;> intro hq))
local macro_rules | `(tactic| walk_at "go") => `(tactic| repeat' first | walk_at "s1" | walk_at "g1" | walk_at "ite")
local macro_rules | `(tactic| walk_at "g1") => `(tactic| first
  | ((with_reducible refine' g_take1 ?h1 ?h2 ?h3 ?h4 ?_); (case h1 => assumption); (case h2 => walk_at "spl"); (case h3 => omega); (case h4 => omega); intro k H2 hk1 hh2)
  | ((with_reducible refine' g_take ?h1 ?h2 ?h4 ?_); (case h1 => assumption); (case h2 => walk_at "spl"); (case h4 => omega); intro k H2 hk1 hh2)
  | ((with_reducible refine' g_betweenN ?h1 ?h2 ?h5 ?h3 ?h4 ?_); (case h1 => assumption); (case h2 => walk_at "spl"); (case h5 => omega); (case h3 => omega); (case h4 => omega); intro k H2 hk1 hk2 hh2)
  | ((with_reducible refine' g_between ?h1 ?h2 ?h3 ?h4 ?_); (case h1 => assumption); (case h2 => walk_at "spl"); (case h3 => omega); (case h4 => omega); intro k H2 hk1 hk2 hh2)
  | ((with_reducible refine' g_size ?h1 ?h2 ?h3 ?h4 ?_); (case h1 => assumption); (case h2 => walk_at "spl"); (case h3 => omega); (case h4 => omega); intro k H2 hk1 hh2)
  | ((with_reducible refine' g_word ?h1 ?h2 ?_); (case h1 => assumption); (case h2 => walk_at "spl"); intro k H2 hk1 hh2))
local macro_rules | `(tactic| walk_at "g1") => `(tactic| first | with_reducible refine w_sl ?_ | with_reducible refine w_part ?_ | with_reducible refine w_noPart ?_ | with_reducible refine w_exI ?_)
local macro_rules | `(tactic| walk_at "g1") => `(tactic| first | with_reducible refine w_din ?_ | with_reducible refine w_dnotin ?_ | with_reducible refine w_dget ?_ | with_reducible refine w_dput ?_ | with_reducible refine w_ddel ?_ | with_reducible refine w_dpop ?_)
section
variable {P : Program} {w : World} {K : PySem.W.Frag} {mg : Str → Option Value} {base : Heap} {aREG aOPS : Addr}
/-! ### logs of picks, as data -/
inductive LRow where
  | pick (w : Option Nat)
  | enter (k p : Nat)
  | leave (k : Nat)
  | wake (k : Nat)
  | sleep (k : Nat)
  | lend (k p : Nat)
def lrD : LRow → List PyData
  | .pick none => [.str "pick", .none]
  | .pick (some q) => [.str "pick", .int q]
  | .enter k p => [.str "enter", .int k, .int p]
  | .leave k => [.str "leave", .int k]
  | .wake k => [.str "wake", .int k]
  | .sleep k => [.str "sleep", .int k]
  | .lend k p => [.str "lend", .int k, .int p]
def scV : PyData → V
  | .bool b => .bl b
  | .int i => .int i
  | .str z => .str z
  | _ => .non
theorem sc_v {H : Hp} {v : V} {d : PyData} (h : Dn K [] H 0 v d) : v = scV d := by
  have h : Sc v d := h
  cases h <;> rfl
theorem paired_sc {H : Hp} : ∀ {xs : List V} {ds : List PyData}, Paired (Dn K [] H 0) xs ds → xs = ds.map scV
  | [], [], .nil => rfl
  | _ :: _, _ :: _, .cons h t => by rw [List.map_cons, ← sc_v h, ← paired_sc t]
theorem dn_tup {H : Hp} {x : V} {ds : List PyData} (h : Dn K [] H 1 x (.tuple ds)) : ∃ t, x = .ref t ∧ SqT K H t (ds.map scV) := by
  rcases h with h | ⟨a, xs, ds', _, e, _⟩ | ⟨a, xs, ds', rfl, e, _, hs, _, hp⟩
  · cases h
  · cases e
  · cases e
    exact ⟨a, rfl, paired_sc hp ▸ hs⟩
/-- the rows rs, told by xs over the cells Y -/
def LogIn (K : PySem.W.Frag) (rs : List LRow) (xs : List V) (Y : List Cell) : Prop := ∀ H, Hd H Y → Paired (Dn K [] H 1) xs (rs.map fun r => PyData.tuple (lrD r))
theorem LogIn.len {rs : List LRow} {xs : List V} {Y : List Cell} {H : Hp} (h : LogIn K rs xs Y) (hh : Hd H Y) : xs.length = rs.length := by
  have := (h H hh).length
  rw [List.length_map] at this
  exact this
theorem LogIn.at_ {rs : List LRow} {xs : List V} {Y : List Cell} {H : Hp} {i : Nat} {x : V} (h : LogIn K rs xs Y) (hx : xs[i]? = some x) (hh : Hd H Y) : ∃ r t, rs[i]? = some r ∧ x = .ref t ∧ ∀ H', Hd H' Y → SqT K H' t ((lrD r).map scV) := by
  have hi : i < rs.length := by rw [← h.len hh]; exact (List.getElem?_eq_some_iff.mp hx).1
  have hr : rs[i]? = some rs[i] := List.getElem?_eq_getElem hi
  have dn : ∀ H', Hd H' Y → Dn K [] H' 1 x (.tuple (lrD rs[i])) := fun H' hh' => by
    obtain ⟨d, hd, dn⟩ := paired_at (h H' hh') hx
    rw [List.getElem?_map, hr] at hd
    cases hd
    exact dn
  obtain ⟨t, rfl, _⟩ := dn_tup (dn H hh)
  refine ⟨_, t, hr, rfl, fun H' hh' => ?_⟩
  obtain ⟨t', e, hs⟩ := dn_tup (dn H' hh')
  cases e
  exact hs
/-- the law's walk: ready, the run, the greatest run -/
def lwStep (p : Nat) (s : Bool × Nat × Nat) : LRow → Bool × Nat × Nat
  | .pick w => if w = some p then (s.1, 0, s.2.2) else if s.1 = true ∧ w ≠ none then (s.1, s.2.1 + 1, max s.2.2 (s.2.1 + 1)) else s
  | .enter k _ => if k = p then (true, s.2) else s
  | .wake k => if k = p then (true, s.2) else s
  | .leave k => if k = p then (false, 0, s.2.2) else s
  | .sleep k => if k = p then (false, 0, s.2.2) else s
  | .lend _ _ => s
def lwAll (p : Nat) (rs : List LRow) : Bool × Nat × Nat := rs.foldl (lwStep p) (false, 0, 0)
/-- the program's walk: the longest wait, the wait, ready -/
def pwStep (p : Nat) (s : Nat × Nat × Bool) : LRow → Nat × Nat × Bool
  | .pick w => if s.2.2 = true ∧ w ≠ some p then (max s.1 (s.2.1 + 1), s.2.1 + 1, s.2.2) else (max s.1 0, 0, s.2.2)
  | .enter k _ => if k = p then (s.1, s.2.1, true) else s
  | .wake k => if k = p then (s.1, s.2.1, true) else s
  | .leave k => if k = p then (s.1, 0, false) else s
  | .sleep k => if k = p then (s.1, 0, false) else s
  | .lend _ _ => s
def pwAll (p : Nat) (rs : List LRow) : Nat × Nat × Bool := rs.foldl (pwStep p) (0, 0, false)
theorem fold_snoc {α β : Type} {f : β → α → β} {b : β} {rs : List α} {i : Nat} {r : α} (h : rs[i]? = some r) : (rs.take (i + 1)).foldl f b = f ((rs.take i).foldl f b) r := by rw [tk_succ h, List.foldl_append]; rfl
theorem lw_hit {p : Nat} {s : Bool × Nat × Nat} : lwStep p s (.pick (some p)) = (s.1, 0, s.2.2) := if_pos rfl
theorem lw_run {p q run best : Nat} (e : ¬ q = p) : lwStep p (true, run, best) (.pick (some q)) = (true, run + 1, max best (run + 1)) := (if_neg fun z => e (by cases z; rfl)).trans (if_pos ⟨rfl, by simp⟩)
theorem lw_off {p q run best : Nat} (e : ¬ q = p) : lwStep p (false, run, best) (.pick (some q)) = (false, run, best) := (if_neg fun z => e (by cases z; rfl)).trans (if_neg (by simp))
def sp_lwait (K : PySem.W.Frag) : Sp := fun vs H Q _ => ∃ (a : Addr) (p : Nat) (rs : List LRow) (xs : List V) (Y R : List Cell), vs = [.ref a, .int p] ∧ p < 8 ∧ rs.length ≤ 100000 ∧ LogIn K rs xs Y ∧ Hd H (lstC a xs :: (Y ++ R)) ∧ ∀ H', Hd H' (lstC a xs :: (Y ++ R)) → Q (.int ((lwAll p rs).2.2 : Nat)) H'
theorem c_lwait (T : Txt K mg aREG aOPS) (d : DefAt K mg "_law_longest_wait" s__law_longest_wait) : C8.Cal P w K mg base 1 "_law_longest_wait" (sp_lwait K) [] := by
  refine mk d sc__law_longest_wait (fun _ _ _ _ _ _ us hl => match us, hl with | [_, _], _ => rfl) (fun vs H Q E h => ?_) (fun fa cdv A outer s H vs Q E hr h => ?_)
  · obtain ⟨a, p, rs, xs, Y, R, rfl, _⟩ := h
    rfl
  · obtain ⟨a, p, rs, xs, Y, R, rfl, hp, hl, hY, hh, q⟩ := h
    have hxl := hY.len (hh.sb (Sb.drop Sb.left))
    refine ⟨_, (pss_cons (ps_set (i := 2) sc__law_longest_wait.nd rfl (Or.inl rfl) pe_bl)
  (pss_cons (ps_set (i := 3) sc__law_longest_wait.nd rfl (Or.inl rfl) pe_int)
  (pss_cons (ps_set (i := 4) sc__law_longest_wait.nd rfl (Or.inl rfl) pe_int)
  (pss_cons (ps_for PassesOwn.never rfl (pi_list (pv 0)) (pg_name (i := 5) sc__law_longest_wait.nd rfl (Or.inl rfl))
    (pss_one (ps_if (pt_cmpR op_eq (pe_ix ix_tup (pv 5) pe_int (fun _ _ => rfl)) pe_str (nomark _))
        (pss_one (ps_if (pt_cmpR op_eq (pe_ix ix_tup (pv 5) pe_int (fun _ _ => rfl)) (pv 1) (nomark _))
            (pss_one (ps_set (i := 3) sc__law_longest_wait.nd rfl (Or.inl rfl) pe_int))
            (pss_one (ps_if (PW.pt (pw_and (pt_val (pv 2)) (pw_and1 (pt_cmpR op_notN1 (pe_ix ix_tup (pv 5) pe_int (fun _ _ => rfl)) pe_non (nomark _)))))
                (pss_cons (ps_aug (i := 3) sc__law_longest_wait.nd rfl (Or.inl rfl) pe_int ip_add)
                  (pss_one (ps_set (i := 4) sc__law_longest_wait.nd rfl (Or.inl rfl) (pe_callB (Wk.b_max rfl) (by rfl) T.b_max (by decide +kernel) (pa_cons (pv 4) (pa_cons (pv 3) pa_nil))))))
                pss_nil))))
        (pss_one (ps_if (PW.pt (pw_and (pt_cmpR op_eq (pe_ix ix_tup (pv 5) pe_int (fun _ _ => rfl)) (pv 1) (nomark _)) (pw_and1 (pt_cmpR op_in_seq (pe_ix ix_tup (pv 5) pe_int (fun _ _ => rfl)) (pe_tup (pa_cons pe_str (pa_cons pe_str pa_nil))) (by rfl)))))
            (pss_one (ps_set (i := 2) sc__law_longest_wait.nd rfl (Or.inl rfl) pe_bl))
            (pss_one (ps_if (PW.pt (pw_and (pt_cmpR op_eq (pe_ix ix_tup (pv 5) pe_int (fun _ _ => rfl)) (pv 1) (nomark _)) (pw_and1 (pt_cmpR op_in_seq (pe_ix ix_tup (pv 5) pe_int (fun _ _ => rfl)) (pe_tup (pa_cons pe_str (pa_cons pe_str pa_nil))) (by rfl)))))
                (pss_cons (ps_set (i := 2) sc__law_longest_wait.nd rfl (Or.inl rfl) pe_bl)
                  (pss_one (ps_set (i := 3) sc__law_longest_wait.nd rfl (Or.inl rfl) pe_int)))
                pss_nil)))))))
  (pss_one (ps_ret (pv 4))))))), ?_⟩
    walk_at "gs"
    refine l_list (hh.sqL (by walk_at "mem")) (fun i σ H => (∃ v5 : Option V, σ = [some (.ref a), some (.int (p : Int)), some (.bl ((rs.take i).foldl (lwStep p) (false, 0, 0)).1), some (.int (((rs.take i).foldl (lwStep p) (false, 0, 0)).2.1 : Nat)), some (.int (((rs.take i).foldl (lwStep p) (false, 0, 0)).2.2 : Nat)), v5]) ∧ Hd H (lstC a xs :: (Y ++ R))) ⟨⟨_, rfl⟩, hh⟩ (fun i σ H' _ h => h.2.sqL (by walk_at "mem")) ?_ ?_
    · rintro i x σ H3 hx ⟨⟨v5, rfl⟩, h3⟩
      obtain ⟨r, t, hr', rfl, hs⟩ := hY.at_ hx (h3.sb (Sb.drop Sb.left))
      have sq := hs H3 (h3.sb (Sb.drop Sb.left))
      rw [fold_snoc hr']
      generalize (rs.take i).foldl (lwStep p) (false, 0, 0) = s0
      obtain ⟨rd, run, best⟩ := s0
      clear hh
      have fin : ∀ {s1 : Bool × Nat × Nat} {H4 : Hp} {v : V}, lwStep p (rd, run, best) r = s1 → Hd H4 (lstC a xs :: (Y ++ R)) → (∃ v5 : Option V, [some (V.ref a), some (.int (p : Int)), some (.bl s1.1), some (.int (s1.2.1 : Nat)), some (.int (s1.2.2 : Nat)), some v] = [some (.ref a), some (.int (p : Int)), some (.bl (lwStep p (rd, run, best) r).1), some (.int ((lwStep p (rd, run, best) r).2.1 : Nat)), some (.int ((lwStep p (rd, run, best) r).2.2 : Nat)), v5]) ∧ Hd H4 (lstC a xs :: (Y ++ R)) := fun e h => ⟨⟨_, by rw [e]⟩, h⟩
      cases r with
      | pick w =>
        cases w with
        | none =>
          have sq : SqT K H3 t [V.str (Str.ofString "pick"), V.non] := sq
          walk_at "gs"
          cases rd with
          | true =>
            walk_at "gs"
            exact fin (s1 := (true, run, best)) rfl h3
          | false =>
            walk_at "gs"
            exact fin (s1 := (false, run, best)) rfl h3
        | some q' =>
          have sq : SqT K H3 t [V.str (Str.ofString "pick"), V.int (q' : Int)] := sq
          walk_at "gs"
          refine w_ite (fun e => ?_) (fun e => ?_)
          · have e : q' = p := by omega
            walk_at "gs"
            exact fin (s1 := (rd, 0, best)) (by rw [e]; exact lw_hit) h3
          · have e : ¬ q' = p := by omega
            walk_at "gs"
            cases rd with
            | true =>
              walk_at "gs"
              rw [show (if (run : Int) + 1 > (best : Int) then (run : Int) + 1 else (best : Int)) = ((max best (run + 1) : Nat) : Int) by split <;> omega]
              exact fin (s1 := (true, run + 1, max best (run + 1))) (lw_run e) h3
            | false =>
              walk_at "gs"
              exact fin (s1 := (false, run, best)) (lw_off e) h3
      | enter k pr =>
        have sq : SqT K H3 t [V.str (Str.ofString "enter"), V.int (k : Int), V.int (pr : Int)] := sq
        walk_at "gs"
        refine w_ite (fun e => ?_) (fun e => ?_)
        · walk_at "gs"
          rename_i pt H4 h4
          rw [show inV (V.str (Str.ofString "enter")) [V.str (Str.ofString "enter"), V.str (Str.ofString "wake")] = true by decide +kernel]
          walk_at "gs"
          exact fin (s1 := (true, run, best)) (if_pos (by omega)) (Hd.sb h4 (by walk_at "sbx"))
        · walk_at "gs"
          refine w_iteF e ?_
          walk_at "gs"
          exact fin (s1 := (rd, run, best)) (if_neg (by omega)) h3
      | leave k =>
        have sq : SqT K H3 t [V.str (Str.ofString "leave"), V.int (k : Int)] := sq
        walk_at "gs"
        refine w_ite (fun e => ?_) (fun e => ?_)
        · walk_at "gs"
          rename_i pt H4 h4
          have sq4 := hs H4 (h4.sb (by walk_at "sbx"))
          have sq4 : SqT K H4 t [V.str (Str.ofString "leave"), V.int (k : Int)] := sq4
          rw [show inV (V.str (Str.ofString "leave")) [V.str (Str.ofString "enter"), V.str (Str.ofString "wake")] = false by decide +kernel]
          walk_at "gs"
          refine w_iteT e ?_
          walk_at "gs"
          rename_i pt2 H5 h5
          rw [show inV (V.str (Str.ofString "leave")) [V.str (Str.ofString "leave"), V.str (Str.ofString "sleep")] = true by decide +kernel]
          walk_at "gs"
          exact fin (s1 := (false, 0, best)) (if_pos (by omega)) (Hd.sb h5 (by walk_at "sbx"))
        · walk_at "gs"
          refine w_iteF e ?_
          walk_at "gs"
          exact fin (s1 := (rd, run, best)) (if_neg (by omega)) h3
      | wake k =>
        have sq : SqT K H3 t [V.str (Str.ofString "wake"), V.int (k : Int)] := sq
        walk_at "gs"
        refine w_ite (fun e => ?_) (fun e => ?_)
        · walk_at "gs"
          rename_i pt H4 h4
          rw [show inV (V.str (Str.ofString "wake")) [V.str (Str.ofString "enter"), V.str (Str.ofString "wake")] = true by decide +kernel]
          walk_at "gs"
          exact fin (s1 := (true, run, best)) (if_pos (by omega)) (Hd.sb h4 (by walk_at "sbx"))
        · walk_at "gs"
          refine w_iteF e ?_
          walk_at "gs"
          exact fin (s1 := (rd, run, best)) (if_neg (by omega)) h3
      | sleep k =>
        have sq : SqT K H3 t [V.str (Str.ofString "sleep"), V.int (k : Int)] := sq
        walk_at "gs"
        refine w_ite (fun e => ?_) (fun e => ?_)
        · walk_at "gs"
          rename_i pt H4 h4
          have sq4 := hs H4 (h4.sb (by walk_at "sbx"))
          have sq4 : SqT K H4 t [V.str (Str.ofString "sleep"), V.int (k : Int)] := sq4
          rw [show inV (V.str (Str.ofString "sleep")) [V.str (Str.ofString "enter"), V.str (Str.ofString "wake")] = false by decide +kernel]
          walk_at "gs"
          refine w_iteT e ?_
          walk_at "gs"
          rename_i pt2 H5 h5
          rw [show inV (V.str (Str.ofString "sleep")) [V.str (Str.ofString "leave"), V.str (Str.ofString "sleep")] = true by decide +kernel]
          walk_at "gs"
          exact fin (s1 := (false, 0, best)) (if_pos (by omega)) (Hd.sb h5 (by walk_at "sbx"))
        · walk_at "gs"
          refine w_iteF e ?_
          walk_at "gs"
          exact fin (s1 := (rd, run, best)) (if_neg (by omega)) h3
      | lend k pr =>
        have sq : SqT K H3 t [V.str (Str.ofString "lend"), V.int (k : Int), V.int (pr : Int)] := sq
        walk_at "gs"
        refine w_ite (fun e => ?_) (fun e => ?_)
        · walk_at "gs"
          rename_i pt H4 h4
          have sq4 := hs H4 (h4.sb (by walk_at "sbx"))
          have sq4 : SqT K H4 t [V.str (Str.ofString "lend"), V.int (k : Int), V.int (pr : Int)] := sq4
          rw [show inV (V.str (Str.ofString "lend")) [V.str (Str.ofString "enter"), V.str (Str.ofString "wake")] = false by decide +kernel]
          walk_at "gs"
          refine w_iteT e ?_
          walk_at "gs"
          rename_i pt2 H5 h5
          rw [show inV (V.str (Str.ofString "lend")) [V.str (Str.ofString "leave"), V.str (Str.ofString "sleep")] = false by decide +kernel]
          walk_at "gs"
          exact fin (s1 := (rd, run, best)) rfl (Hd.sb h5 (by walk_at "sbx"))
        · walk_at "gs"
          refine w_iteF e ?_
          walk_at "gs"
          exact fin (s1 := (rd, run, best)) rfl h3
    · rintro σ H3 ⟨⟨v5, rfl⟩, h3⟩
      walk_at "gs"
      rw [hxl, List.take_length]
      exact q _ h3
theorem pw_run {p lo wa : Nat} {w : Option Nat} (e : ¬ w = some p) : pwStep p (lo, wa, true) (.pick w) = (max lo (wa + 1), wa + 1, true) := if_pos ⟨rfl, e⟩
theorem pw_hit {p lo wa : Nat} {rd : Bool} : pwStep p (lo, wa, rd) (.pick (some p)) = (lo, 0, rd) := (if_neg (by simp)).trans (by simp)
theorem pw_off {p lo wa : Nat} {w : Option Nat} : pwStep p (lo, wa, false) (.pick w) = (lo, 0, false) := by
  show (if (false = true ∧ w ≠ some p) then (max lo (wa + 1), wa + 1, false) else (max lo 0, 0, false)) = (lo, 0, false)
  rw [if_neg (fun z => Bool.noConfusion z.1), Nat.max_eq_left (Nat.zero_le _)]
def sp_pwait (K : PySem.W.Frag) : Sp := fun vs H Q _ => ∃ (a : Addr) (p : Nat) (rs : List LRow) (xs : List V) (Y R : List Cell), vs = [.ref a, .int p] ∧ p < 8 ∧ rs.length ≤ 100000 ∧ LogIn K rs xs Y ∧ Hd H (lstC a xs :: (Y ++ R)) ∧ ∀ H', Hd H' (lstC a xs :: (Y ++ R)) → Q (.int ((pwAll p rs).1 : Nat)) H'
theorem fo_pwait {f : Addr} {fd : FuncData} (T : Txt K mg aREG aOPS) (d : FunT K "longest_wait" s_longest_wait f fd) (c_ask_range : C8.Cal P w K mg base 3 "ask_range" (sp_ask K) []) : FnOk P w K mg base C8.CX0 4 f fd ["log", "pid"] (sp_pwait K) := by
  refine mkF d sc_longest_wait (fun vs H Q E h => ?_) (fun fa cdv A outer s H vs Q E hr h => ?_)
  · obtain ⟨a, p, rs, xs, Y, R, rfl, _⟩ := h
    rfl
  · obtain ⟨a, p, rs, xs, Y, R, rfl, hp, hl, hY, hh, q⟩ := h
    have hxl := hY.len (hh.sb (Sb.drop Sb.left))
    refine ⟨_, (pss_cons (ps_expr (C8.pe_c c_ask_range hr (by first | decide | omega) rfl (pa_cons pe_str (pa_cons (pv 1) (pa_cons pe_int (pa_cons pe_int pa_nil))))))
  (pss_cons (ps_set (i := 2) sc_longest_wait.nd rfl (Or.inl rfl) pe_int)
  (pss_cons (ps_set (i := 3) sc_longest_wait.nd rfl (Or.inl rfl) pe_int)
  (pss_cons (ps_set (i := 4) sc_longest_wait.nd rfl (Or.inl rfl) pe_bl)
  (pss_cons (ps_for PassesOwn.never rfl (pi_list (pv 0)) (pg_name (i := 5) sc_longest_wait.nd rfl (Or.inl rfl))
    (pss_one (ps_if (pt_cmpR op_eq (pe_ix ix_tup (pv 5) pe_int (fun _ _ => rfl)) pe_str (nomark _))
        (pss_cons (ps_set (i := 3) sc_longest_wait.nd rfl (Or.inl rfl) (pe_ifExp (PW.pt (pw_and (pt_val (pv 4)) (pw_and1 (pt_cmpR op_ne (pe_ix ix_tup (pv 5) pe_int (fun _ _ => rfl)) (pv 1) (nomark _))))) (pe_op op_add (pv 3) pe_int) pe_int))
          (pss_one (ps_set (i := 2) sc_longest_wait.nd rfl (Or.inl rfl) (pe_callB (Wk.b_max rfl) (by rfl) T.b_max (by decide +kernel) (pa_cons (pv 2) (pa_cons (pv 3) pa_nil))))))
        (pss_one (ps_if (PW.pt (pw_and (pt_cmpR op_eq (pe_ix ix_tup (pv 5) pe_int (fun _ _ => rfl)) (pv 1) (nomark _)) (pw_and1 (pt_cmpR op_in_seq (pe_ix ix_tup (pv 5) pe_int (fun _ _ => rfl)) (pe_tup (pa_cons pe_str (pa_cons pe_str pa_nil))) (by rfl)))))
            (pss_one (ps_set (i := 4) sc_longest_wait.nd rfl (Or.inl rfl) pe_bl))
            (pss_one (ps_if (PW.pt (pw_and (pt_cmpR op_eq (pe_ix ix_tup (pv 5) pe_int (fun _ _ => rfl)) (pv 1) (nomark _)) (pw_and1 (pt_cmpR op_in_seq (pe_ix ix_tup (pv 5) pe_int (fun _ _ => rfl)) (pe_tup (pa_cons pe_str (pa_cons pe_str pa_nil))) (by rfl)))))
                (pss_cons (ps_set (i := 4) sc_longest_wait.nd rfl (Or.inl rfl) pe_bl)
                  (pss_one (ps_set (i := 3) sc_longest_wait.nd rfl (Or.inl rfl) pe_int)))
                pss_nil)))))))
  (pss_one (ps_ret (pv 2)))))))), ?_⟩
    walk_at "gs"
    refine u_ask ⟨by omega, by omega⟩ ?_
    walk_at "gs"
    refine l_list (hh.sqL (by walk_at "mem")) (fun i σ H => (∃ v5 : Option V, σ = [some (.ref a), some (.int (p : Int)), some (.int (((rs.take i).foldl (pwStep p) (0, 0, false)).1 : Nat)), some (.int (((rs.take i).foldl (pwStep p) (0, 0, false)).2.1 : Nat)), some (.bl ((rs.take i).foldl (pwStep p) (0, 0, false)).2.2), v5]) ∧ Hd H (lstC a xs :: (Y ++ R))) ⟨⟨_, rfl⟩, hh⟩ (fun i σ H' _ h => h.2.sqL (by walk_at "mem")) ?_ ?_
    · rintro i x σ H3 hx ⟨⟨v5, rfl⟩, h3⟩
      obtain ⟨r, t, hr', rfl, hs⟩ := hY.at_ hx (h3.sb (Sb.drop Sb.left))
      have sq := hs H3 (h3.sb (Sb.drop Sb.left))
      rw [fold_snoc hr']
      generalize (rs.take i).foldl (pwStep p) (0, 0, false) = s0
      obtain ⟨lo, wa, rd⟩ := s0
      clear hh
      have fin : ∀ {s1 : Nat × Nat × Bool} {H4 : Hp} {v : V}, pwStep p (lo, wa, rd) r = s1 → Hd H4 (lstC a xs :: (Y ++ R)) → (∃ v5 : Option V, [some (V.ref a), some (.int (p : Int)), some (.int (s1.1 : Nat)), some (.int (s1.2.1 : Nat)), some (.bl s1.2.2), some v] = [some (.ref a), some (.int (p : Int)), some (.int ((pwStep p (lo, wa, rd) r).1 : Nat)), some (.int ((pwStep p (lo, wa, rd) r).2.1 : Nat)), some (.bl (pwStep p (lo, wa, rd) r).2.2), v5]) ∧ Hd H4 (lstC a xs :: (Y ++ R)) := fun e h => ⟨⟨_, by rw [e]⟩, h⟩
      cases r with
      | pick w =>
        cases w with
        | none =>
          have sq : SqT K H3 t [V.str (Str.ofString "pick"), V.non] := sq
          walk_at "gs"
          cases rd with
          | true =>
            walk_at "gs"
            rw [show (if (wa : Int) + 1 > (lo : Int) then (wa : Int) + 1 else (lo : Int)) = ((max lo (wa + 1) : Nat) : Int) by split <;> omega]
            exact fin (s1 := (max lo (wa + 1), wa + 1, true)) (pw_run (by simp)) h3
          | false =>
            walk_at "gs"
            rw [show (if (0 : Int) > (lo : Int) then (0 : Int) else (lo : Int)) = (lo : Int) by split <;> omega]
            exact fin (s1 := (lo, 0, false)) pw_off h3
        | some q' =>
          have sq : SqT K H3 t [V.str (Str.ofString "pick"), V.int (q' : Int)] := sq
          walk_at "gs"
          cases rd with
          | true =>
            walk_at "gs"
            refine w_iteN (fun e => ?_) (fun e => ?_)
            · walk_at "gs"
              rw [show (if (wa : Int) + 1 > (lo : Int) then (wa : Int) + 1 else (lo : Int)) = ((max lo (wa + 1) : Nat) : Int) by split <;> omega]
              exact fin (s1 := (max lo (wa + 1), wa + 1, true)) (pw_run fun z => e (by cases z; rfl)) h3
            · have e : q' = p := by omega
              walk_at "gs"
              rw [show (if (0 : Int) > (lo : Int) then (0 : Int) else (lo : Int)) = (lo : Int) by split <;> omega]
              exact fin (s1 := (lo, 0, true)) (by rw [e]; exact pw_hit) h3
          | false =>
            walk_at "gs"
            rw [show (if (0 : Int) > (lo : Int) then (0 : Int) else (lo : Int)) = (lo : Int) by split <;> omega]
            exact fin (s1 := (lo, 0, false)) pw_off h3
      | enter k pr =>
        have sq : SqT K H3 t [V.str (Str.ofString "enter"), V.int (k : Int), V.int (pr : Int)] := sq
        walk_at "gs"
        refine w_ite (fun e => ?_) (fun e => ?_)
        · walk_at "gs"
          rename_i pt H4 h4
          rw [show inV (V.str (Str.ofString "enter")) [V.str (Str.ofString "enter"), V.str (Str.ofString "wake")] = true by decide +kernel]
          walk_at "gs"
          exact fin (s1 := (lo, wa, true)) (if_pos (by omega)) (Hd.sb h4 (by walk_at "sbx"))
        · walk_at "gs"
          refine w_iteF e ?_
          walk_at "gs"
          exact fin (s1 := (lo, wa, rd)) (if_neg (by omega)) h3
      | leave k =>
        have sq : SqT K H3 t [V.str (Str.ofString "leave"), V.int (k : Int)] := sq
        walk_at "gs"
        refine w_ite (fun e => ?_) (fun e => ?_)
        · walk_at "gs"
          rename_i pt H4 h4
          have sq4 := hs H4 (h4.sb (by walk_at "sbx"))
          have sq4 : SqT K H4 t [V.str (Str.ofString "leave"), V.int (k : Int)] := sq4
          rw [show inV (V.str (Str.ofString "leave")) [V.str (Str.ofString "enter"), V.str (Str.ofString "wake")] = false by decide +kernel]
          walk_at "gs"
          refine w_iteT e ?_
          walk_at "gs"
          rename_i pt2 H5 h5
          rw [show inV (V.str (Str.ofString "leave")) [V.str (Str.ofString "sleep"), V.str (Str.ofString "leave")] = true by decide +kernel]
          walk_at "gs"
          exact fin (s1 := (lo, 0, false)) (if_pos (by omega)) (Hd.sb h5 (by walk_at "sbx"))
        · walk_at "gs"
          refine w_iteF e ?_
          walk_at "gs"
          exact fin (s1 := (lo, wa, rd)) (if_neg (by omega)) h3
      | wake k =>
        have sq : SqT K H3 t [V.str (Str.ofString "wake"), V.int (k : Int)] := sq
        walk_at "gs"
        refine w_ite (fun e => ?_) (fun e => ?_)
        · walk_at "gs"
          rename_i pt H4 h4
          rw [show inV (V.str (Str.ofString "wake")) [V.str (Str.ofString "enter"), V.str (Str.ofString "wake")] = true by decide +kernel]
          walk_at "gs"
          exact fin (s1 := (lo, wa, true)) (if_pos (by omega)) (Hd.sb h4 (by walk_at "sbx"))
        · walk_at "gs"
          refine w_iteF e ?_
          walk_at "gs"
          exact fin (s1 := (lo, wa, rd)) (if_neg (by omega)) h3
      | sleep k =>
        have sq : SqT K H3 t [V.str (Str.ofString "sleep"), V.int (k : Int)] := sq
        walk_at "gs"
        refine w_ite (fun e => ?_) (fun e => ?_)
        · walk_at "gs"
          rename_i pt H4 h4
          have sq4 := hs H4 (h4.sb (by walk_at "sbx"))
          have sq4 : SqT K H4 t [V.str (Str.ofString "sleep"), V.int (k : Int)] := sq4
          rw [show inV (V.str (Str.ofString "sleep")) [V.str (Str.ofString "enter"), V.str (Str.ofString "wake")] = false by decide +kernel]
          walk_at "gs"
          refine w_iteT e ?_
          walk_at "gs"
          rename_i pt2 H5 h5
          rw [show inV (V.str (Str.ofString "sleep")) [V.str (Str.ofString "sleep"), V.str (Str.ofString "leave")] = true by decide +kernel]
          walk_at "gs"
          exact fin (s1 := (lo, 0, false)) (if_pos (by omega)) (Hd.sb h5 (by walk_at "sbx"))
        · walk_at "gs"
          refine w_iteF e ?_
          walk_at "gs"
          exact fin (s1 := (lo, wa, rd)) (if_neg (by omega)) h3
      | lend k pr =>
        have sq : SqT K H3 t [V.str (Str.ofString "lend"), V.int (k : Int), V.int (pr : Int)] := sq
        walk_at "gs"
        refine w_ite (fun e => ?_) (fun e => ?_)
        · walk_at "gs"
          rename_i pt H4 h4
          have sq4 := hs H4 (h4.sb (by walk_at "sbx"))
          have sq4 : SqT K H4 t [V.str (Str.ofString "lend"), V.int (k : Int), V.int (pr : Int)] := sq4
          rw [show inV (V.str (Str.ofString "lend")) [V.str (Str.ofString "enter"), V.str (Str.ofString "wake")] = false by decide +kernel]
          walk_at "gs"
          refine w_iteT e ?_
          walk_at "gs"
          rename_i pt2 H5 h5
          rw [show inV (V.str (Str.ofString "lend")) [V.str (Str.ofString "sleep"), V.str (Str.ofString "leave")] = false by decide +kernel]
          walk_at "gs"
          exact fin (s1 := (lo, wa, rd)) rfl (Hd.sb h5 (by walk_at "sbx"))
        · walk_at "gs"
          refine w_iteF e ?_
          walk_at "gs"
          exact fin (s1 := (lo, wa, rd)) rfl h3
    · rintro σ H3 ⟨⟨v5, rfl⟩, h3⟩
      walk_at "gs"
      rw [hxl, List.take_length]
      exact q _ h3
theorem c_pwait (T : Txt K mg aREG aOPS) (d : DefAt K mg "longest_wait" s_longest_wait) (c_ask_range : C8.Cal P w K mg base 3 "ask_range" (sp_ask K) []) : C8.Cal P w K mg base 4 "longest_wait" (sp_pwait K) [] := by
  obtain ⟨f, fd, F, hm⟩ := d
  exact ⟨f, fd, _, [], fo_pwait T F c_ask_range, hm, F.kp, FunD.bindsN F fun _ _ _ _ _ _ us hl => match us, hl with | [_, _], _ => rfl, .nil⟩
end
end K24
set_option Elab.async false
set_option linter.all false
set_option maxRecDepth 100000
set_option maxHeartbeats 4000000
namespace K24
open PySem PySem.Spec PyProof.Rows L2 Wk
local macro_rules | `(tactic| walk_at "u1") => `(tactic| fail "no more")
local macro_rules | `(tactic| walk_at "pos") => `(tactic| first | assumption | omega | decide | (simp only [Int.ofNat_eq_natCast] at *; omega))
local macro_rules | `(tactic| walk_at "sz") => `(tactic| first
  | (simp only [List.length_cons, List.length_nil]; decide)
  | exact Evl.sz_of (by omega)
  | exact Evl.sz_lt (by omega)
  | exact Evl.sz_of (by simp only [List.length_map, List.length_append, List.length_cons, List.length_nil, List.length_replicate]; omega)
  | exact Evl.sz_lt (by simp only [List.length_map, List.length_append, List.length_cons, List.length_nil, List.length_replicate]; omega))
local macro_rules | `(tactic| walk_at "cond") => `(tactic| first
  | exact Or.inr ⟨by decide, by decide⟩
  | (show (0 : Int) < _; first | decide | assumption | omega)
  | exact Or.inl ⟨by omega, by omega⟩
  | exact Or.inr ⟨by omega, by omega⟩
  | exact ⟨by decide, by decide, by decide⟩
  | exact log2_lt (by omega) (by omega)
  | exact ⟨by omega, by omega⟩)
local macro_rules | `(tactic| walk_at "ty") => `(tactic| first
  | exact ty_int | exact ty_bl | exact ty_str | exact ty_non
  | exact ty_L (by assumption) | exact ty_T (by assumption)
  | exact ty_L (SqL.of (by assumption)) | exact ty_T (SqT.of (by assumption)))
local macro_rules | `(tactic| walk_at "kit") => `(tactic| first
  | exact k_ii | exact k_ib | exact k_is | exact k_il | exact k_it
  | exact k_bb | exact k_bi | exact k_bs | exact k_bl | exact k_bt
  | exact k_ss | exact k_sb | exact k_si | exact k_sl | exact k_st
  | exact k_ll | exact k_lb | exact k_li | exact k_ls | exact k_lt
  | exact k_tt | exact k_tb | exact k_ti | exact k_ts | exact k_tl
  | exact k_nn | exact k_ni | exact k_ns | exact k_nl | exact k_nt)
local macro_rules | `(tactic| walk_at "s1") => `(tactic| first
  | with_reducible refine w_seq ?_
  | with_reducible refine w_set ?_
  | with_reducible refine w_op ?_
  | ((with_reducible refine' w_var ?h1 ?_); (case h1 => rfl))
  | with_reducible refine w_c ?_
  | with_reducible refine w_cb ?_
  | with_reducible refine w_cons ?_
  | with_reducible refine w_nil ?_
  | with_reducible refine w_I0 ?_
  | ((with_reducible refine' w_I ?c1 ?_); case c1 => walk_at "cond")
  | with_reducible refine w_ret ?_
  | with_reducible refine w_next ?_
  | with_reducible refine w_ifS ?_
  | with_reducible refine w_test ?_
  | with_reducible refine w_tB ?_
  | with_reducible refine w_k ?_
  | with_reducible refine w_eqI ?_
  | with_reducible refine w_neI ?_
  | with_reducible refine w_eqS ?_
  | with_reducible refine w_neS ?_
  | with_reducible refine w_and ?_
  | with_reducible refine w_or ?_
  | with_reducible refine w_not ?_
  | with_reducible refine w_andV ?_
  | with_reducible refine w_orV ?_
  | with_reducible refine w_notV ?_
  | with_reducible refine w_ifE ?_
  | with_reducible refine w_true ?_
  | with_reducible refine w_false ?_
  | with_reducible refine w_ntrue ?_
  | with_reducible refine w_nfalse ?_
  | with_reducible refine w_call ?_
  | with_reducible refine c_int ?_
  | with_reducible refine c_abs ?_
  | with_reducible refine c_max ?_
  | with_reducible refine c_min ?_
  | with_reducible refine w_drop ?_
  | with_reducible refine w_sfld ?_
  | with_reducible refine w_meth ?_
  | with_reducible refine w_make ?_
  | with_reducible refine w_prop ?_
  | with_reducible refine w_callK ?_
  | with_reducible refine w_callN ?_
  | with_reducible refine w_star ?_
  | with_reducible refine w_gcons ?_
  | with_reducible refine w_gname ?_
  | with_reducible refine w_gnil ?_
  | with_reducible refine w_retN ?_
  | with_reducible refine w_tup ?_
  | with_reducible refine w_lst ?_
  | with_reducible refine w_fld ?_
  | with_reducible refine w_bm ?_
  | with_reducible refine w_bm0 ?_
  | with_reducible refine w_forL ?_
  | with_reducible refine w_forT ?_
  | with_reducible refine w_forS ?_
  | with_reducible refine w_forR ?_
  | with_reducible refine w_lcR ?_
  | with_reducible refine w_lcL ?_
  | with_reducible refine w_lcT ?_
  | with_reducible refine w_isN ?_
  | with_reducible refine w_notN ?_
  | with_reducible refine w_asg ?_
  | with_reducible refine w_gsub ?_
  | ((with_reducible refine' w_aug ?h1 ?_); (case h1 => rfl))
  | with_reducible refine w_augS ?_
  | with_reducible refine w_ipI ?_
  | with_reducible refine w_un ?_
  | with_reducible refine w_U ?_
  | ((with_reducible refine' w_iteF ?f1 ?_); case f1 => (first | (intro h; cases h; done) | decide))
  | ((with_reducible refine' w_iteT ?f1 ?_); case f1 => rfl)
  | ((with_reducible refine' w_iteNF ?f1 ?_); case f1 => rfl)
  | ((with_reducible refine' w_iteNT ?f1 ?_); case f1 => (first | (intro h; cases h; done) | decide))
  | ((with_reducible refine' c_isi ?t1 ?k1 ?_); (case t1 => walk_at "ty"); (case k1 => walk_at "kit"))
  | ((with_reducible refine' w_eq ?e1 ?_); case e1 => rfl)
  | ((with_reducible refine' w_ne ?e1 ?_); case e1 => rfl)
  | walk_at "u1")
local macro_rules | `(tactic| walk_at "s") => `(tactic| repeat walk_at "s1")
local macro_rules | `(tactic| walk_at "mem") => `(tactic| first | with_reducible exact List.mem_cons_self .. | ((with_reducible refine' List.mem_cons_of_mem _ ?q); (case q => walk_at "mem")) | assumption | ((with_reducible refine' List.mem_append_right _ ?q); (case q => walk_at "mem")) | (exact List.mem_append_left _ (by assumption)))
local macro_rules | `(tactic| walk_at "pk") => `(tactic| first | with_reducible exact Pk.here | ((with_reducible refine' Pk.there ?q); (case q => walk_at "pk")) | ((with_reducible refine' Pk.app ?q); (case q => walk_at "pk")))
local macro_rules | `(tactic| walk_at "pkb") => `(tactic| first | with_reducible exact PkB.here | ((with_reducible refine' PkB.there ?q); (case q => walk_at "pkb")) | ((with_reducible refine' PkB.app ?q); (case q => walk_at "pkb")))
local macro_rules | `(tactic| walk_at "spl") => `(tactic| first | with_reducible exact Spl.nil | ((with_reducible refine' Spl.cons ?h ?t); (case h => walk_at "pk"); (case t => walk_at "spl")) | ((with_reducible refine' Spl.blk ?h ?t); (case h => walk_at "pkb"); (case t => walk_at "spl")))
local macro_rules | `(tactic| walk_at "sbx") => `(tactic| first | with_reducible exact Sb.refl | with_reducible exact Sb.nil | with_reducible exact Sb.left | ((with_reducible refine' Sb.cons ?h ?t); (case h => walk_at "pk"); (case t => walk_at "sbx")) | ((with_reducible refine' Sb.blk ?h ?t); (case h => walk_at "pkb"); (case t => walk_at "sbx")) | ((with_reducible refine' Sb.drop ?q); (case q => walk_at "sbx")) | ((with_reducible refine' Sb.right ?q); (case q => walk_at "sbx")))
local macro_rules | `(tactic| walk_at "hd") => `(tactic| first | assumption | exact Hd.sb (by assumption) (by walk_at "sbx"))
local macro_rules | `(tactic| walk_at "sq") => `(tactic| first
  | assumption
  | exact Hd.sqL (by assumption) (by walk_at "mem")
  | exact Hd.sqT (by assumption) (by walk_at "mem")
  | exact Hd.sqF (by assumption) (by walk_at "mem")
  | (refine .inl ?_; walk_at "sq")
  | (refine .inr ?_; walk_at "sq"))
local macro_rules | `(tactic| walk_at "at") => `(tactic| first | rfl | assumption | exact atI_nat (by assumption))
local macro_rules | `(tactic| walk_at "dn1") => `(tactic| first
  | exact Dn.int | exact Dn.str | exact Dn.non | exact Dn.bl | assumption
  | ((refine' Dn.tp ?a1 ?m1 ?l1 ?p1); (case a1 => assumption); (case m1 => walk_at "mem"); (case l1 => (simp only [List.length_cons, List.length_nil]; omega)); (case p1 => walk_at "dns"))
  | ((refine' Dn.lt ?a1 ?m1 ?l1 ?p1); (case a1 => assumption); (case m1 => walk_at "mem"); (case l1 => (simp only [List.length_cons, List.length_nil]; omega)); (case p1 => walk_at "dns")))
local macro_rules | `(tactic| walk_at "dns") => `(tactic| first | exact Paired.nil | exact Dn.ints | ((refine' Paired.cons ?a1 ?b1); (case a1 => walk_at "dn1"); (case b1 => walk_at "dns")))
local macro_rules | `(tactic| walk_at "g1") => `(tactic| first
  | ((with_reducible refine' g_ixI ?h1 ?h2 ?h3 ?_); (case h1 => assumption); (case h2 => walk_at "mem"); (case h3 => omega); intro z hz)
  | ((with_reducible refine' g_ixIT ?h1 ?h2 ?h3 ?_); (case h1 => assumption); (case h2 => walk_at "mem"); (case h3 => omega); intro z hz)
  | ((with_reducible refine' g_setI ?h1 ?h2 ?h3 ?_); (case h1 => assumption); (case h2 => walk_at "pk"); (case h3 => omega); intro H2 hh2)
  | ((with_reducible refine' w_ixL ?h1 ?h2 ?_); (case h1 => walk_at "sq"); (case h2 => walk_at "at"))
  | ((with_reducible refine' w_ixT ?h1 ?h2 ?_); (case h1 => walk_at "sq"); (case h2 => walk_at "at"))
  | ((with_reducible refine' w_ixAny ?h1 ?h2 ?_); (case h1 => walk_at "sq"); (case h2 => walk_at "at"))
  | ((with_reducible refine' c_lenA ?h1 ?_); (case h1 => walk_at "sq"))
  | ((with_reducible refine' c_isi ?t1 ?k1 ?_); (case t1 => first | exact ty_T (by walk_at "sq") | exact ty_L (by walk_at "sq")); (case k1 => walk_at "kit"))
  | ((with_reducible refine' g_lst ?h1 ?h2 ?_); (case h1 => assumption); (case h2 => walk_at "sz"); intro p H2 hh2)
  | ((with_reducible refine' g_tup ?h1 ?h2 ?_); (case h1 => assumption); (case h2 => walk_at "sz"); intro p H2 hh2)
  | ((with_reducible refine' g_dict ?h1 ?_); (case h1 => assumption); intro p H2 hh2)
  | ((with_reducible refine' g_listL ?h1 ?h2 ?_); (case h1 => assumption); (case h2 => walk_at "sq"); intro p H2 hh2)
  | ((with_reducible refine' g_listT ?h1 ?h2 ?_); (case h1 => assumption); (case h2 => walk_at "sq"); intro p H2 hh2)
  | ((with_reducible refine' g_tupL ?h1 ?h2 ?_); (case h1 => assumption); (case h2 => walk_at "sq"); intro p H2 hh2)
  | ((with_reducible refine' g_set ?h1 ?h2 ?h3 ?_); (case h1 => assumption); (case h2 => walk_at "pk"); (case h3 => first | rfl | assumption | exact Evl.ixN_nat (by first | omega | (simp only [List.length_cons, List.length_nil]; omega))); intro H2 hh2)
  | ((with_reducible refine' g_kbm ?h1 ?h2 ?_); (case h1 => assumption); (case h2 => walk_at "mem"))
  | ((with_reducible refine' g_kbm0 ?h1 ?h2 ?_); (case h1 => assumption); (case h2 => walk_at "mem"))
  | ((with_reducible refine' g_app ?h1 ?h2 ?h3 ?_); (case h1 => assumption); (case h2 => walk_at "pk"); (case h3 => walk_at "sz"); intro H2 hh2)
  | ((with_reducible refine' g_kapp ?h1 ?h2 ?h3 ?_); (case h1 => assumption); (case h2 => walk_at "pk"); (case h3 => walk_at "sz"); intro H2 hh2)
  | ((with_reducible refine' g_fld ?h1 ?h2 ?h3 ?h4 ?h5 ?_); (case h1 => assumption); (case h2 => walk_at "mem"); (case h3 => assumption); (case h4 => assumption); (case h5 => rfl))
  | ((with_reducible refine' g_sfld ?h1 ?h2 ?h3 ?h4 ?h5 ?_); (case h1 => assumption); (case h2 => walk_at "pk"); (case h3 => assumption); (case h4 => assumption); (case h5 => decide); intro H2 hh2)
  | ((with_reducible refine' g_meth ?h1 ?h2 ?h3 ?_); (case h1 => assumption); (case h2 => walk_at "mem"); (case h3 => rfl))
  | ((with_reducible refine' g_prop ?h1 ?h2 ?_); (case h1 => assumption); (case h2 => walk_at "mem"))
  | ((with_reducible refine' g_make ?h1 ?_); (case h1 => assumption); intro x H2 hh2)
  | ((with_reducible refine' g_cat ?h1 ?h2 ?h3 ?h4 ?_); (case h1 => assumption); (case h2 => walk_at "mem"); (case h3 => walk_at "mem"); (case h4 => walk_at "sz"); intro p H2 hh2)
  | ((with_reducible refine' g_inT ?h1 ?h2 ?h3 ?h4 ?h5 ?_); (case h1 => assumption); (case h2 => walk_at "mem"); (case h3 => rfl); (case h4 => rfl); (case h5 => rfl)))
local macro_rules | `(tactic| walk_at "gs") => `(tactic| repeat first | walk_at "s1" | walk_at "g1")
local macro_rules | `(tactic| walk_at "ite") => `(tactic| first
  | ((with_reducible refine' w_iteT ?h1 ?_); (case h1 => omega))
  | ((with_reducible refine' w_iteF ?h1 ?_); (case h1 => omega))
  | (with_reducible refine w_ite ?_ ?_ <;> intro hq)
  | ((with_reducible refine' w_iteNT ?h1 ?_); (case h1 => omega))
  | ((with_reducible refine' w_iteNF ?h1 ?_); (case h1 => omega))
  | (with_reducible refine w_iteN ?_ ?_ <;> intro hq))
local macro_rules | `(tactic| walk_at "go") => `(tactic| repeat' first | walk_at "s1" | walk_at "g1" | walk_at "ite")
local macro_rules | `(tactic| walk_at "g1") => `(tactic| first
  | ((with_reducible refine' g_take1 ?h1 ?h2 ?h3 ?h4 ?_); (case h1 => assumption); (case h2 => walk_at "spl"); (case h3 => omega); (case h4 => omega); intro k H2 hk1 hh2)
  | ((with_reducible refine' g_take ?h1 ?h2 ?h4 ?_); (case h1 => assumption); (case h2 => walk_at "spl"); (case h4 => omega); intro k H2 hk1 hh2)
  | ((with_reducible refine' g_betweenN ?h1 ?h2 ?h5 ?h3 ?h4 ?_); (case h1 => assumption); (case h2 => walk_at "spl"); (case h5 => omega); (case h3 => omega); (case h4 => omega); intro k H2 hk1 hk2 hh2)
  | ((with_reducible refine' g_between ?h1 ?h2 ?h3 ?h4 ?_); (case h1 => assumption); (case h2 => walk_at "spl"); (case h3 => omega); (case h4 => omega); intro k H2 hk1 hk2 hh2)
  | ((with_reducible refine' g_size ?h1 ?h2 ?h3 ?h4 ?_); (case h1 => assumption); (case h2 => walk_at "spl"); (case h3 => omega); (case h4 => omega); intro k H2 hk1 hh2)
  | ((with_reducible refine' g_word ?h1 ?h2 ?_); (case h1 => assumption); (case h2 => walk_at "spl"); intro k H2 hk1 hh2))
local macro_rules | `(tactic| walk_at "g1") => `(tactic| first | with_reducible refine w_sl ?_ | with_reducible refine w_part ?_ | with_reducible refine w_noPart ?_ | with_reducible refine w_exI ?_)
local macro_rules | `(tactic| walk_at "g1") => `(tactic| first | with_reducible refine w_din ?_ | with_reducible refine w_dnotin ?_ | with_reducible refine w_dget ?_ | with_reducible refine w_dput ?_ | with_reducible refine w_ddel ?_ | with_reducible refine w_dpop ?_)
section
variable {P : Program} {w : World} {K : PySem.W.Frag} {mg : Str → Option Value} {base : Heap} {aREG aOPS : Addr}
/-! ### what is done to an Ages object -/
inductive Deed where
  | enter (k p : Nat) (r : Bool)
  | pick
  | leave (k : Nat)
  | wake (k : Nat)
  | sleep (k : Nat)
  | lend (k p : Nat)
def dV : Deed → List V
  | .enter k p r => [.str "enter", .int k, .int p, .bl r]
  | .pick => [.str "pick"]
  | .leave k => [.str "leave", .int k]
  | .wake k => [.str "wake", .int k]
  | .sleep k => [.str "sleep", .int k]
  | .lend k p => [.str "lend", .int k, .int p]
/-- who is a member behind it -/
def dom1 (f : Nat → Bool) : Deed → Nat → Bool
  | .enter k _ _ => fun j => decide (j = k) || f j
  | .leave k => fun j => !decide (j = k) && f j
  | _ => f
def ok1 (f : Nat → Bool) : Deed → Prop
  | .enter k p _ => k < 8 ∧ p ≤ 7 ∧ f k = false
  | .pick => True
  | .leave k => f k = true
  | .wake k => f k = true
  | .sleep k => f k = true
  | .lend k p => p ≤ 7 ∧ f k = true
theorem inV_nat {k : Nat} {ms : List Nat} : inV (.int (k : Int)) (natV ms) = decide (k ∈ ms) := by
  unfold inV natV
  rw [List.any_map]
  rw [Bool.eq_iff_iff, List.any_eq_true, decide_eq_true_iff]
  constructor
  · rintro ⟨j, hj, e⟩
    have e : (decide ((j : Int) = (k : Int))) = true := e
    have := of_decide_eq_true e
    rw [show k = j by omega]
    exact hj
  · intro h
    exact ⟨k, h, show (decide ((k : Int) = (k : Int))) = true from decide_eq_true rfl⟩
/-- the members behind a deed that is no pick -/
def stepS (S : AgS) : Deed → AgS
  | .enter k p r => upS S k (some (newM p r))
  | .pick => S
  | .leave k => upS S k none
  | .wake k => upS S k ((S k).map wakeM)
  | .sleep k => upS S k ((S k).map sleepM)
  | .lend k p => upS S k ((S k).map fun m => { m with lent := p })
abbrev domS (S : AgS) : Nat → Bool := fun j => (S j).isSome
def Out (S : AgS) (d : Deed) (r : V) (S' : AgS) : Prop :=
  (d = .pick ∧ ((readyL S = [] ∧ r = .non ∧ S' = S) ∨ ∃ p : Nat, IsPick S p ∧ r = .int p ∧ S' = pickS S p)) ∨ (d ≠ .pick ∧ r = .non ∧ S' = stepS S d)
theorem pick_one {S : AgS} {p q : Nat} (hp : IsPick S p) (hq : IsPick S q) : p = q := by
  have h1 := hp.2 q hq.1
  have h2 := hq.2 p hp.1
  rcases Nat.lt_trichotomy p q with z | z | z
  · have := h2.2 z; omega
  · exact z
  · have := h1.2 z; omega
theorem Out.one {S S1 S2 : AgS} {d : Deed} {r1 r2 : V} (h1 : Out S d r1 S1) (h2 : Out S d r2 S2) : r1 = r2 ∧ S1 = S2 := by
  rcases h1 with ⟨e, h1⟩ | ⟨e, h1, h1'⟩ <;> rcases h2 with ⟨e2, h2⟩ | ⟨e2, h2, h2'⟩
  · rcases h1 with ⟨a, b, c⟩ | ⟨p, a, b, c⟩ <;> rcases h2 with ⟨a2, b2, c2⟩ | ⟨p2, a2, b2, c2⟩
    · exact ⟨b.trans b2.symm, c.trans c2.symm⟩
    · exact absurd a2.1 (by rw [a]; exact List.not_mem_nil)
    · exact absurd a.1 (by rw [a2]; exact List.not_mem_nil)
    · have := pick_one a a2
      subst this
      exact ⟨b.trans b2.symm, c.trans c2.symm⟩
  · exact absurd e e2
  · exact absurd e2 e
  · exact ⟨h1.trans h2.symm, h1'.trans h2'.symm⟩
theorem agedS_some (S : AgS) (T : List Nat) (j : Nat) : (agedS S T j).isSome = (S j).isSome := by
  unfold agedS
  split
  · exact Option.isSome_map
  · rfl
theorem upS_some {ρ : Type} (S : Nat → Option ρ) (k j : Nat) (f : ρ → ρ) : (upS S k ((S k).map f) j).isSome = (S j).isSome := by
  unfold upS
  split
  · rename_i h; subst h; exact Option.isSome_map
  · rfl
theorem Out.dom {S S' : AgS} {d : Deed} {r : V} (h : Out S d r S') (h1 : ok1 (domS S) d) (j : Nat) : domS S' j = dom1 (domS S) d j := by
  rcases h with ⟨rfl, ⟨_, _, rfl⟩ | ⟨p, hp, _, rfl⟩⟩ | ⟨_, _, rfl⟩
  · rfl
  · show (pickS S p j).isSome = (S j).isSome
    unfold pickS upS
    split
    · rename_i h; subst h; exact Option.isSome_map
    · exact agedS_some ..
  · cases d with
    | enter k p r =>
      show (upS S k _ j).isSome = (decide (j = k) || (S j).isSome)
      unfold upS
      split
      · rename_i e; rw [decide_eq_true e]; rfl
      · rename_i e; rw [decide_eq_false e]; rfl
    | pick => rfl
    | leave k =>
      show (upS S k _ j).isSome = (!decide (j = k) && (S j).isSome)
      unfold upS
      split
      · rename_i e; rw [decide_eq_true e]; rfl
      · rename_i e; rw [decide_eq_false e]; rfl
    | wake k => exact upS_some ..
    | sleep k => exact upS_some ..
    | lend k p => exact upS_some ..
end
end K24
set_option Elab.async false
set_option linter.all false
set_option maxRecDepth 100000
set_option maxHeartbeats 4000000
namespace K24
open PySem PySem.Spec PyProof.Rows L2 Wk
local macro_rules | `(tactic| walk_at "u1") => `(tactic| fail "no more")
local macro_rules | `(tactic| walk_at "pos") => `(tactic| first | assumption | omega | decide | (simp only [Int.ofNat_eq_natCast] at *; omega))
local macro_rules | `(tactic| walk_at "sz") => `(tactic| first
  | (simp only [List.length_cons, List.length_nil]; decide)
  | exact Evl.sz_of (by omega)
  | exact Evl.sz_lt (by omega)
  | exact Evl.sz_of (by simp only [List.length_map, List.length_append, List.length_cons, List.length_nil, List.length_replicate]; omega)
  | exact Evl.sz_lt (by simp only [List.length_map, List.length_append, List.length_cons, List.length_nil, List.length_replicate]; omega))
local macro_rules | `(tactic| walk_at "cond") => `(tactic| first
  | exact Or.inr ⟨by decide, by decide⟩
  | (show (0 : Int) < _; first | decide | assumption | omega)
  | exact Or.inl ⟨by omega, by omega⟩
  | exact Or.inr ⟨by omega, by omega⟩
  | exact ⟨by decide, by decide, by decide⟩
  | exact log2_lt (by omega) (by omega)
  | exact ⟨by omega, by omega⟩)
local macro_rules | `(tactic| walk_at "ty") => `(tactic| first
  | exact ty_int | exact ty_bl | exact ty_str | exact ty_non
  | exact ty_L (by assumption) | exact ty_T (by assumption)
  | exact ty_L (SqL.of (by assumption)) | exact ty_T (SqT.of (by assumption)))
local macro_rules | `(tactic| walk_at "kit") => `(tactic| first
  | exact k_ii | exact k_ib | exact k_is | exact k_il | exact k_it
  | exact k_bb | exact k_bi | exact k_bs | exact k_bl | exact k_bt
  | exact k_ss | exact k_sb | exact k_si | exact k_sl | exact k_st
  | exact k_ll | exact k_lb | exact k_li | exact k_ls | exact k_lt
  | exact k_tt | exact k_tb | exact k_ti | exact k_ts | exact k_tl
  | exact k_nn | exact k_ni | exact k_ns | exact k_nl | exact k_nt)
local macro_rules | `(tactic| walk_at "s1") => `(tactic| first
  | with_reducible refine w_seq ?_
  | with_reducible refine w_set ?_
  | with_reducible refine w_op ?_
  | ((with_reducible refine' w_var ?h1 ?_); (case h1 => rfl))
  | with_reducible refine w_c ?_
  | with_reducible refine w_cb ?_
  | with_reducible refine w_cons ?_
  | with_reducible refine w_nil ?_
  | with_reducible refine w_I0 ?_
  | ((with_reducible refine' w_I ?c1 ?_); case c1 => walk_at "cond")
  | with_reducible refine w_ret ?_
  | with_reducible refine w_next ?_
  | with_reducible refine w_ifS ?_
  | with_reducible refine w_test ?_
  | with_reducible refine w_tB ?_
  | with_reducible refine w_k ?_
  | with_reducible refine w_eqI ?_
  | with_reducible refine w_neI ?_
  | with_reducible refine w_eqS ?_
  | with_reducible refine w_neS ?_
  | with_reducible refine w_and ?_
  | with_reducible refine w_or ?_
  | with_reducible refine w_not ?_
  | with_reducible refine w_andV ?_
  | with_reducible refine w_orV ?_
  | with_reducible refine w_notV ?_
  | with_reducible refine w_ifE ?_
  | with_reducible refine w_true ?_
  | with_reducible refine w_false ?_
  | with_reducible refine w_ntrue ?_
  | with_reducible refine w_nfalse ?_
  | with_reducible refine w_call ?_
  | with_reducible refine c_int ?_
  | with_reducible refine c_abs ?_
  | with_reducible refine c_max ?_
  | with_reducible refine c_min ?_
  | with_reducible refine w_drop ?_
  | with_reducible refine w_sfld ?_
  | with_reducible refine w_meth ?_
  | with_reducible refine w_make ?_
  | with_reducible refine w_prop ?_
  | with_reducible refine w_callK ?_
  | with_reducible refine w_callN ?_
  | with_reducible refine w_star ?_
  | with_reducible refine w_gcons ?_
  | with_reducible refine w_gname ?_
  | with_reducible refine w_gnil ?_
  | with_reducible refine w_retN ?_
  | with_reducible refine w_tup ?_
  | with_reducible refine w_lst ?_
  | with_reducible refine w_fld ?_
  | with_reducible refine w_bm ?_
  | with_reducible refine w_bm0 ?_
  | with_reducible refine w_forL ?_
  | with_reducible refine w_forT ?_
  | with_reducible refine w_forS ?_
  | with_reducible refine w_forR ?_
  | with_reducible refine w_lcR ?_
  | with_reducible refine w_lcL ?_
  | with_reducible refine w_lcT ?_
  | with_reducible refine w_isN ?_
  | with_reducible refine w_notN ?_
  | with_reducible refine w_asg ?_
  | with_reducible refine w_gsub ?_
  | ((with_reducible refine' w_aug ?h1 ?_); (case h1 => rfl))
  | with_reducible refine w_augS ?_
  | with_reducible refine w_ipI ?_
  | with_reducible refine w_un ?_
  | with_reducible refine w_U ?_
  | ((with_reducible refine' w_iteF ?f1 ?_); case f1 => (first | (intro h; cases h; done) | decide))
  | ((with_reducible refine' w_iteT ?f1 ?_); case f1 => rfl)
  | ((with_reducible refine' w_iteNF ?f1 ?_); case f1 => rfl)
  | ((with_reducible refine' w_iteNT ?f1 ?_); case f1 => (first | (intro h; cases h; done) | decide))
  | ((with_reducible refine' c_isi ?t1 ?k1 ?_); (case t1 => walk_at "ty"); (case k1 => walk_at "kit"))
  | ((with_reducible refine' w_eq ?e1 ?_); case e1 => rfl)
  | ((with_reducible refine' w_ne ?e1 ?_); case e1 => rfl)
  | walk_at "u1")
local macro_rules | `(tactic| walk_at "s") => `(tactic| repeat walk_at "s1")
local macro_rules | `(tactic| walk_at "mem") => `(tactic| first | with_reducible exact List.mem_cons_self .. | ((with_reducible refine' List.mem_cons_of_mem _ ?q); (case q => walk_at "mem")) | assumption | ((with_reducible refine' List.mem_append_right _ ?q); (case q => walk_at "mem")) | (exact List.mem_append_left _ (by assumption)))
local macro_rules | `(tactic| walk_at "pk") => `(tactic| first | with_reducible exact Pk.here | ((with_reducible refine' Pk.there ?q); (case q => walk_at "pk")) | ((with_reducible refine' Pk.app ?q); (case q => walk_at "pk")))
local macro_rules | `(tactic| walk_at "pkb") => `(tactic| first | with_reducible exact PkB.here | ((with_reducible refine' PkB.there ?q); (case q => walk_at "pkb")) | ((with_reducible refine' PkB.app ?q); (case q => walk_at "pkb")))
local macro_rules | `(tactic| walk_at "spl") => `(tactic| first | with_reducible exact Spl.nil | ((with_reducible refine' Spl.cons ?h ?t); (case h => walk_at "pk"); (case t => walk_at "spl")) | ((with_reducible refine' Spl.blk ?h ?t); (case h => walk_at "pkb"); (case t => walk_at "spl")))
local macro_rules | `(tactic| walk_at "sbx") => `(tactic| first | with_reducible exact Sb.refl | with_reducible exact Sb.nil | with_reducible exact Sb.left | ((with_reducible refine' Sb.cons ?h ?t); (case h => walk_at "pk"); (case t => walk_at "sbx")) | ((with_reducible refine' Sb.blk ?h ?t); (case h => walk_at "pkb"); (case t => walk_at "sbx")) | ((with_reducible refine' Sb.drop ?q); (case q => walk_at "sbx")) | ((with_reducible refine' Sb.right ?q); (case q => walk_at "sbx")))
local macro_rules | `(tactic| walk_at "hd") => `(tactic| first | assumption | exact Hd.sb (by assumption) (by walk_at "sbx"))
local macro_rules | `(tactic| walk_at "sq") => `(tactic| first
  | assumption
  | exact Hd.sqL (by assumption) (by walk_at "mem")
  | exact Hd.sqT (by assumption) (by walk_at "mem")
  | exact Hd.sqF (by assumption) (by walk_at "mem")
  | (refine .inl ?_; walk_at "sq")
  | (refine .inr ?_; walk_at "sq"))
local macro_rules | `(tactic| walk_at "at") => `(tactic| first | rfl | assumption | exact atI_nat (by assumption))
local macro_rules | `(tactic| walk_at "dn1") => `(tactic| first
  | exact Dn.int | exact Dn.str | exact Dn.non | exact Dn.bl | assumption
  | ((refine' Dn.tp ?a1 ?m1 ?l1 ?p1); (case a1 => assumption); (case m1 => walk_at "mem"); (case l1 => (simp only [List.length_cons, List.length_nil]; omega)); (case p1 => walk_at "dns"))
  | ((refine' Dn.lt ?a1 ?m1 ?l1 ?p1); (case a1 => assumption); (case m1 => walk_at "mem"); (case l1 => (simp only [List.length_cons, List.length_nil]; omega)); (case p1 => walk_at "dns")))
local macro_rules | `(tactic| walk_at "dns") => `(tactic| first | exact Paired.nil | exact Dn.ints | ((refine' Paired.cons ?a1 ?b1); (case a1 => walk_at "dn1"); (case b1 => walk_at "dns")))
local macro_rules | `(tactic| walk_at "g1") => `(tactic| first
  | ((with_reducible refine' g_ixI ?h1 ?h2 ?h3 ?_); (case h1 => assumption); (case h2 => walk_at "mem"); (case h3 => omega); intro z hz)
  | ((with_reducible refine' g_ixIT ?h1 ?h2 ?h3 ?_); (case h1 => assumption); (case h2 => walk_at "mem"); (case h3 => omega); intro z hz)
  | ((with_reducible refine' g_setI ?h1 ?h2 ?h3 ?_); (case h1 => assumption); (case h2 => walk_at "pk"); (case h3 => omega); intro H2 hh2)
  | ((with_reducible refine' w_ixL ?h1 ?h2 ?_); (case h1 => walk_at "sq"); (case h2 => walk_at "at"))
  | ((with_reducible refine' w_ixT ?h1 ?h2 ?_); (case h1 => walk_at "sq"); (case h2 => walk_at "at"))
  | ((with_reducible refine' w_ixAny ?h1 ?h2 ?_); (case h1 => walk_at "sq"); (case h2 => walk_at "at"))
  | ((with_reducible refine' c_lenA ?h1 ?_); (case h1 => walk_at "sq"))
  | ((with_reducible refine' c_isi ?t1 ?k1 ?_); (case t1 => first | exact ty_T (by walk_at "sq") | exact ty_L (by walk_at "sq")); (case k1 => walk_at "kit"))
  | ((with_reducible refine' g_lst ?h1 ?h2 ?_); (case h1 => assumption); (case h2 => walk_at "sz"); intro p H2 hh2)
  | ((with_reducible refine' g_tup ?h1 ?h2 ?_); (case h1 => assumption); (case h2 => walk_at "sz"); intro p H2 hh2)
  | ((with_reducible refine' g_dict ?h1 ?_); (case h1 => assumption); intro p H2 hh2)
  | ((with_reducible refine' g_listL ?h1 ?h2 ?_); (case h1 => assumption); (case h2 => walk_at "sq"); intro p H2 hh2)
  | ((with_reducible refine' g_listT ?h1 ?h2 ?_); (case h1 => assumption); (case h2 => walk_at "sq"); intro p H2 hh2)
  | ((with_reducible refine' g_tupL ?h1 ?h2 ?_); (case h1 => assumption); (case h2 => walk_at "sq"); intro p H2 hh2)
  | ((with_reducible refine' g_set ?h1 ?h2 ?h3 ?_); (case h1 => assumption); (case h2 => walk_at "pk"); (case h3 => first | rfl | assumption | exact Evl.ixN_nat (by first | omega | (simp only [List.length_cons, List.length_nil]; omega))); intro H2 hh2)
  | ((with_reducible refine' g_kbm ?h1 ?h2 ?_); (case h1 => assumption); (case h2 => walk_at "mem"))
  | ((with_reducible refine' g_kbm0 ?h1 ?h2 ?_); (case h1 => assumption); (case h2 => walk_at "mem"))
  | ((with_reducible refine' g_app ?h1 ?h2 ?h3 ?_); (case h1 => assumption); (case h2 => walk_at "pk"); (case h3 => walk_at "sz"); intro H2 hh2)
  | ((with_reducible refine' g_kapp ?h1 ?h2 ?h3 ?_); (case h1 => assumption); (case h2 => walk_at "pk"); (case h3 => walk_at "sz"); intro H2 hh2)
  | ((with_reducible refine' g_fld ?h1 ?h2 ?h3 ?h4 ?h5 ?_); (case h1 => assumption); (case h2 => walk_at "mem"); (case h3 => assumption); (case h4 => assumption); (case h5 => rfl))
  | ((with_reducible refine' g_sfld ?h1 ?h2 ?h3 ?h4 ?h5 ?_); (case h1 => assumption); (case h2 => walk_at "pk"); (case h3 => assumption); (case h4 => assumption); (case h5 => decide); intro H2 hh2)
  | ((with_reducible refine' g_meth ?h1 ?h2 ?h3 ?_); (case h1 => assumption); (case h2 => walk_at "mem"); (case h3 => rfl))
  | ((with_reducible refine' g_prop ?h1 ?h2 ?_); (case h1 => assumption); (case h2 => walk_at "mem"))
  | ((with_reducible refine' g_make ?h1 ?_); (case h1 => assumption); intro x H2 hh2)
  | ((with_reducible refine' g_cat ?h1 ?h2 ?h3 ?h4 ?_); (case h1 => assumption); (case h2 => walk_at "mem"); (case h3 => walk_at "mem"); (case h4 => walk_at "sz"); intro p H2 hh2)
  | ((with_reducible refine' g_inT ?h1 ?h2 ?h3 ?h4 ?h5 ?_); (case h1 => assumption); (case h2 => walk_at "mem"); (case h3 => rfl); (case h4 => rfl); (case h5 => rfl)))
local macro_rules | `(tactic| walk_at "gs") => `(tactic| repeat first | walk_at "s1" | walk_at "g1")
local macro_rules | `(tactic| walk_at "ite") => `(tactic| first
  | ((with_reducible refine' w_iteT ?h1 ?_); (case h1 => omega))
  | ((with_reducible refine' w_iteF ?h1 ?_); (case h1 => omega))
  | (with_reducible refine w_ite ?_ ?_ <;> intro hq)
  | ((with_reducible refine' w_iteNT ?h1 ?_); (case h1 => omega))
  | ((with_reducible refine' w_iteNF ?h1 ?_); (case h1 => omega))
  | (with_reducible refine w_iteN ?_ ?_ <;> intro hq))
local macro_rules | `(tactic| walk_at "go") => `(tactic| repeat' first | walk_at "s1" | walk_at "g1" | walk_at "ite")
local macro_rules | `(tactic| walk_at "g1") => `(tactic| first
  | ((with_reducible refine' g_take1 ?h1 ?h2 ?h3 ?h4 ?_); (case h1 => assumption); (case h2 => walk_at "spl"); (case h3 => omega); (case h4 => omega); intro k H2 hk1 hh2)
  | ((with_reducible refine' g_take ?h1 ?h2 ?h4 ?_); (case h1 => assumption); (case h2 => walk_at "spl"); (case h4 => omega); intro k H2 hk1 hh2)
  | ((with_reducible refine' g_betweenN ?h1 ?h2 ?h5 ?h3 ?h4 ?_); (case h1 => assumption); (case h2 => walk_at "spl"); (case h5 => omega); (case h3 => omega); (case h4 => omega); intro k H2 hk1 hk2 hh2)
  | ((with_reducible refine' g_between ?h1 ?h2 ?h3 ?h4 ?_); (case h1 => assumption); (case h2 => walk_at "spl"); (case h3 => omega); (case h4 => omega); intro k H2 hk1 hk2 hh2)
  | ((with_reducible refine' g_size ?h1 ?h2 ?h3 ?h4 ?_); (case h1 => assumption); (case h2 => walk_at "spl"); (case h3 => omega); (case h4 => omega); intro k H2 hk1 hh2)
  | ((with_reducible refine' g_word ?h1 ?h2 ?_); (case h1 => assumption); (case h2 => walk_at "spl"); intro k H2 hk1 hh2))
local macro_rules | `(tactic| walk_at "g1") => `(tactic| first | with_reducible refine w_sl ?_ | with_reducible refine w_part ?_ | with_reducible refine w_noPart ?_ | with_reducible refine w_exI ?_)
local macro_rules | `(tactic| walk_at "g1") => `(tactic| first | with_reducible refine w_din ?_ | with_reducible refine w_dnotin ?_ | with_reducible refine w_dget ?_ | with_reducible refine w_dput ?_ | with_reducible refine w_ddel ?_ | with_reducible refine w_dpop ?_)
section
variable {P : Program} {w : World} {K : PySem.W.Frag} {mg : Str → Option Value} {base : Heap} {aREG aOPS : Addr}
/-- one that sleeps has age 0 -/
def Good (S : AgS) : Prop := ∀ k m, S k = some m → m.ready = false → m.age = 0
def pidOf : Deed → Nat
  | .enter k _ _ => k
  | .pick => 0
  | .leave k => k
  | .wake k => k
  | .sleep k => k
  | .lend k _ => k
theorem step_ne {S : AgS} {d : Deed} {k : Nat} (h : k ≠ pidOf d) : stepS S d k = S k := by
  cases d <;> first | rfl | exact upS_ne h
theorem pick_none {S : AgS} {p j : Nat} : (pickS S p j).isSome = (S j).isSome := by
  unfold pickS upS
  split
  · rename_i h; subst h; exact Option.isSome_map
  · exact agedS_some ..
theorem Out.good {S S' : AgS} {d : Deed} {r : V} (h : Out S d r S') (hG : Good S) : Good S' := by
  rcases h with ⟨_, ⟨_, _, rfl⟩ | ⟨p, hp, _, rfl⟩⟩ | ⟨hn, _, rfl⟩
  · exact hG
  · intro k m hm hr
    have h8 : k < 8 ∨ ¬ k < 8 := by omega
    have hsome : (S k).isSome = true := by rw [← pick_none (p := p), hm]; rfl
    obtain ⟨m0, hm0⟩ := Option.isSome_iff_exists.mp hsome
    unfold pickS upS at hm
    by_cases e : k = p
    · subst e
      rw [if_pos rfl, hm0] at hm
      cases hm
      rfl
    · rw [if_neg e] at hm
      unfold agedS at hm
      by_cases hin : k ∈ readyL S
      · rw [if_pos hin, hm0] at hm
        cases hm
        obtain ⟨_, m', e1, e2⟩ := ready_mem.mp hin
        rw [hm0] at e1
        cases e1
        rw [show (agedM m0).ready = m0.ready from rfl, e2] at hr
        cases hr
      · rw [if_neg hin] at hm
        exact hG k m hm hr
  · intro k m hm hr
    by_cases e : k = pidOf d
    · subst e
      cases d with
      | pick => exact absurd rfl hn
      | enter k p r => rw [show stepS S (.enter k p r) (pidOf (.enter k p r)) = some (newM p r) from upS_same ..] at hm; cases hm; rfl
      | leave k => rw [show stepS S (.leave k) (pidOf (.leave k)) = none from upS_same ..] at hm; cases hm
      | wake k =>
        rw [show stepS S (.wake k) (pidOf (.wake k)) = (S k).map wakeM from upS_same ..] at hm
        cases hk : S k with
        | none => rw [hk] at hm; cases hm
        | some m0 => rw [hk] at hm; cases hm; cases hr
      | sleep k =>
        rw [show stepS S (.sleep k) (pidOf (.sleep k)) = (S k).map sleepM from upS_same ..] at hm
        cases hk : S k with
        | none => rw [hk] at hm; cases hm
        | some m0 => rw [hk] at hm; cases hm; rfl
      | lend k p =>
        rw [show stepS S (.lend k p) (pidOf (.lend k p)) = (S k).map (fun m => { m with lent := p }) from upS_same ..] at hm
        cases hk : S k with
        | none => rw [hk] at hm; cases hm
        | some m0 => rw [hk] at hm; cases hm; exact hG k m0 hk hr
    · rw [step_ne e] at hm
      exact hG k m hm hr
/-! ### no one waits long -/
theorem countP_lt {α : Type} {f g : α → Bool} {p : α} : ∀ {l : List α}, (∀ q ∈ l, f q = true → g q = true) → p ∈ l → g p = true → f p = false → l.countP f + 1 ≤ l.countP g
  | x :: l, h, hp, hg, hf => by
    rw [List.countP_cons, List.countP_cons]
    have hx := h x (List.mem_cons_self ..)
    rcases List.mem_cons.mp hp with rfl | hp
    · have hm : l.countP f ≤ l.countP g := List.countP_mono_left fun q hq => h q (List.mem_cons_of_mem _ hq)
      rw [hg, hf]
      simp only [Bool.false_eq_true, if_false, if_true]
      omega
    · have ih := countP_lt (fun q hq => h q (List.mem_cons_of_mem _ hq)) hp hg hf
      cases hfx : f x with
      | true => rw [hx hfx]; simp only [if_true]; omega
      | false => simp only [Bool.false_eq_true, if_false]; split <;> omega
/-- q may still be picked ahead of p: it is ready, and its age lies less than 8 - x beneath a -/
def aheadB (S : AgS) (p x a q : Nat) : Bool := match S q with
  | some m => decide (q ≠ p) && (m.ready && decide (a < m.age + (8 - x)))
  | none => false
def aheadN (S : AgS) (p x a : Nat) : Nat := (List.range 8).countP (aheadB S p x a)
def memN (S : AgS) : Nat := (keys8 S).length
theorem memN_count (S : AgS) : memN S = (List.range 8).countP fun k => (S k).isSome := (List.countP_eq_length_filter ..).symm
theorem ahead_mem {S : AgS} {p x a : Nat} (h8 : p < 8) (hm : (S p).isSome = true) : aheadN S p x a + 1 ≤ memN S := by
  rw [memN_count]
  refine countP_lt (p := p) (fun q _ h => ?_) (List.mem_range.mpr h8) hm ?_
  · unfold aheadB at h
    split at h
    · rename_i e; rw [e]; rfl
    · cases h
  · unfold aheadB
    split
    · rw [decide_eq_false (fun h => h rfl)]; rfl
    · rfl
/-- what holds when there were at most M members at once -/
structure WaitOk (S : AgS) (M : Nat) : Prop where
  lt : ∀ p, (S p).isSome = true → p < 8
  mem : memN S ≤ M
  prio : ∀ p m, S p = some m → m.base ≤ 7 ∧ m.lent ≤ 7
  wait : ∀ p m, S p = some m → m.ready = true → (M ≤ 1 → m.age = 0) ∧ (7 - m.base ≤ m.age → m.age - (7 - m.base) + aheadN S p m.base m.age + 1 ≤ M)
theorem WaitOk.bound {S : AgS} {M p : Nat} {m : Mb} (h : WaitOk S M) (hm : S p = some m) (hr : m.ready = true) : m.age + m.base ≤ 6 + M := by
  obtain ⟨h7, _⟩ := h.prio p m hm
  have hs : (S p).isSome = true := by rw [hm]; rfl
  have hk : 1 ≤ M := Nat.le_trans (List.length_pos_of_mem (keysS_mem.mpr ⟨h.lt p hs, hs⟩)) h.mem
  by_cases z : 7 - m.base ≤ m.age
  · have := (h.wait p m hm hr).2 z; omega
  · omega
theorem WaitOk.zero {S : AgS} {M p : Nat} {m : Mb} (h : WaitOk S M) (hM : M ≤ 1) (hm : S p = some m) (hr : m.ready = true) : m.age = 0 := (h.wait p m hm hr).1 hM
theorem WaitOk.mono {S : AgS} {M M' : Nat} (h : WaitOk S M) (hM : M ≤ M') : WaitOk S M' := ⟨h.lt, Nat.le_trans h.mem hM, h.prio, fun p m hm hr => ⟨fun z => (h.wait p m hm hr).1 (Nat.le_trans hM z), fun z => Nat.le_trans ((h.wait p m hm hr).2 z) hM⟩⟩
theorem WaitOk.nil : WaitOk (fun _ => none) 0 := ⟨fun p h => (by cases h), (show (keys8 fun _ => none).length ≤ 0 from Nat.le_refl _), fun p m h => (by cases h), fun p m h => (by cases h)⟩
/-- what a deed that is no pick makes of one member -/
def Mild (S : AgS) (k : Nat) (v : Option Mb) : Prop := ∀ m', v = some m' → k < 8 ∧ m'.base ≤ 7 ∧ m'.lent ≤ 7 ∧ (m'.ready = true → m'.age = 0 ∨ ∃ m, S k = some m ∧ m.ready = true ∧ m'.base = m.base ∧ m'.age = m.age)
theorem WaitOk.up {S : AgS} {M k : Nat} {v : Option Mb} (h : WaitOk S M) (hv : Mild S k v) : WaitOk (upS S k v) (max M (memN (upS S k v))) := by
  have hM : M ≤ max M (memN (upS S k v)) := Nat.le_max_left ..
  have hlt : ∀ p, (upS S k v p).isSome = true → p < 8 := fun p hp => by
    unfold upS at hp
    split at hp
    · obtain ⟨m', hm'⟩ := Option.isSome_iff_exists.mp hp
      rename_i e
      rw [e]
      exact (hv m' hm').1
    · exact h.lt p hp
  refine ⟨hlt, Nat.le_max_right .., fun p m hm => ?_, fun p m hm hr => ?_⟩
  · unfold upS at hm
    split at hm
    · exact ⟨(hv m hm).2.1, (hv m hm).2.2.1⟩
    · exact h.prio p m hm
  · have hs : (upS S k v p).isSome = true := by rw [hm]; rfl
    have hone : ∀ x a, aheadN (upS S k v) p x a + 1 ≤ max M (memN (upS S k v)) := fun x a => Nat.le_trans (ahead_mem (hlt p hs) hs) (Nat.le_max_right ..)
    -- what is ahead of one of an age beyond
    have hsub : ∀ x a, x ≤ 7 → 8 - x ≤ a → aheadN (upS S k v) p x a ≤ aheadN S p x a := fun x a hx ha => by
      refine List.countP_mono_left fun q _ hq => ?_
      unfold aheadB at hq ⊢
      by_cases e : q = k
      · subst e
        rw [upS_same] at hq
        cases hvv : v with
        | none => rw [hvv] at hq; cases hq
        | some m' =>
          rw [hvv] at hq
          simp only [Bool.and_eq_true, decide_eq_true_iff] at hq
          obtain ⟨hqp, hqr, hqa⟩ := hq
          rcases (hv m' hvv).2.2.2 hqr with h0 | ⟨m0, hm0, hr0, _, ha0⟩
          · omega
          · rw [hm0]
            simp only [Bool.and_eq_true, decide_eq_true_iff]
            exact ⟨hqp, hr0, by omega⟩
      · rw [upS_ne e] at hq
        exact hq
    by_cases e : p = k
    · subst e
      rw [upS_same] at hm
      rcases (hv m hm).2.2.2 hr with h0 | ⟨m0, hm0, hr0, hb0, ha0⟩
      · refine ⟨fun _ => h0, fun z => ?_⟩
        have := hone m.base m.age
        omega
      · have w := h.wait p m0 hm0 hr0
        have hb7 := (h.prio p m0 hm0).1
        rw [hb0, ha0]
        refine ⟨fun z => w.1 (Nat.le_trans hM z), fun z => ?_⟩
        by_cases z2 : 8 - m0.base ≤ m0.age
        · have := hsub m0.base m0.age hb7 z2
          have := w.2 z
          omega
        · have := hone m0.base m0.age
          omega
    · rw [upS_ne e] at hm
      have w := h.wait p m hm hr
      have hb7 := (h.prio p m hm).1
      refine ⟨fun z => w.1 (Nat.le_trans hM z), fun z => ?_⟩
      by_cases z2 : 8 - m.base ≤ m.age
      · have := hsub m.base m.age hb7 z2
        have := w.2 z
        omega
      · have := hone m.base m.age
        omega
theorem pick_at {S : AgS} {k q : Nat} {m : Mb} (h8 : q < 8) (hm : S q = some m) : pickS S k q = some (if q = k then { m with age := 0 } else if m.ready = true then agedM m else m) := by
  unfold pickS upS
  by_cases e : q = k
  · subst e
    rw [if_pos rfl, if_pos rfl, hm]
    rfl
  · rw [if_neg e, if_neg e]
    unfold agedS
    cases hr : m.ready with
    | true => rw [if_pos (ready_mem.mpr ⟨h8, m, hm, hr⟩), hm, if_pos rfl]; rfl
    | false =>
      have hn : ¬ q ∈ readyL S := fun z => by
        obtain ⟨_, m', e1, e2⟩ := ready_mem.mp z
        rw [hm] at e1
        cases e1
        rw [hr] at e2
        cases e2
      rw [if_neg hn, if_neg (by decide), hm]
theorem pick_back {S : AgS} {k q : Nat} {m' : Mb} (h : pickS S k q = some m') : ∃ m, S q = some m := by
  have : (pickS S k q).isSome = (S q).isSome := by
    unfold pickS upS
    split
    · rename_i e; subst e; exact Option.isSome_map
    · exact agedS_some ..
  rw [h] at this
  exact Option.isSome_iff_exists.mp this.symm
theorem eff_le {m : Mb} (h : m.base ≤ 7 ∧ m.lent ≤ 7) : (m.base : Int) ≤ effI m ∧ effI m ≤ 7 := by
  unfold effI
  split <;> omega
theorem WaitOk.pick {S : AgS} {M k : Nat} (h : WaitOk S M) (hp : IsPick S k) : WaitOk (pickS S k) M := by
  obtain ⟨hk8, mk, hmk, hrk⟩ := ready_mem.mp hp.1
  have hkeys : memN (pickS S k) = memN S := by
    show (keys8 _).length = (keys8 _).length
    rw [show keys8 (pickS S k) = keys8 S from List.filter_congr fun q _ => by
      unfold pickS upS
      split
      · rename_i e; subst e; exact Option.isSome_map
      · exact agedS_some ..]
  have hsome : ∀ q, (pickS S k q).isSome = true → (S q).isSome = true := fun q hq => by
    obtain ⟨m', hm'⟩ := Option.isSome_iff_exists.mp hq
    obtain ⟨m, hm⟩ := pick_back hm'
    rw [hm]; rfl
  refine ⟨fun q hq => h.lt q (hsome q hq), by rw [hkeys]; exact h.mem, fun q m' hm' => ?_, fun p m' hm' hr' => ?_⟩
  · obtain ⟨m, hm⟩ := pick_back hm'
    rw [pick_at (h.lt q (by rw [hm]; rfl)) hm] at hm'
    have := h.prio q m hm
    cases hm'
    split
    · exact this
    · split <;> exact this
  · obtain ⟨m, hm⟩ := pick_back hm'
    have hp8 := h.lt p (by rw [hm]; rfl)
    have hs' : (pickS S k p).isSome = true := by rw [hm']; rfl
    have hone : ∀ x a, aheadN (pickS S k) p x a + 1 ≤ M := fun x a => Nat.le_trans (ahead_mem hp8 hs') (by rw [hkeys]; exact h.mem)
    rw [pick_at hp8 hm] at hm'
    have hpr := h.prio p m hm
    by_cases e : p = k
    · rw [if_pos e] at hm'
      cases hm'
      refine ⟨fun _ => rfl, fun z => ?_⟩
      have := hone m.base 0
      show 0 - (7 - m.base) + aheadN (pickS S k) p m.base 0 + 1 ≤ M
      omega
    · rw [if_neg e] at hm'
      have hrd : m.ready = true := by
        cases hm'
        split at hr'
        · assumption
        · exact hr'
      rw [if_pos hrd] at hm'
      cases hm'
      have w := h.wait p m hm hrd
      have hin : p ∈ readyL S := ready_mem.mpr ⟨hp8, m, hm, hrd⟩
      refine ⟨fun hM => ?_, fun z => ?_⟩
      · -- two ready members, and at most one member
        exfalso
        have h2 : 2 ≤ memN S := by
          have h1 := ahead_mem (x := 0) (a := 0) hp8 (show (S p).isSome = true by rw [hm]; rfl)
          have hk : aheadB S p 0 0 k = true := by
            unfold aheadB
            rw [hmk]
            simp only [Bool.and_eq_true, decide_eq_true_iff]
            exact ⟨fun z => e z.symm, hrk, by omega⟩
          have : 0 < aheadN S p 0 0 := List.countP_pos_iff.mpr ⟨k, List.mem_range.mpr hk8, hk⟩
          omega
        have := h.mem
        omega
      · show m.age + 1 - (7 - m.base) + aheadN (pickS S k) p m.base (m.age + 1) + 1 ≤ M
        have z : 7 - m.base ≤ m.age + 1 := z
        by_cases z2 : 7 - m.base ≤ m.age
        · have hw := w.2 z2
          have hstd := (hp.2 p hin).1
          have e1 : stdS S p = effI m + m.age := by unfold stdS; rw [hm]; rfl
          have e2 : stdS S k = effI mk + mk.age := by unfold stdS; rw [hmk]; rfl
          have f1 := (eff_le hpr).1
          have f2 := (eff_le (h.prio k mk hmk)).2
          have hlt : aheadN (pickS S k) p m.base (m.age + 1) + 1 ≤ aheadN S p m.base m.age := by
            refine countP_lt (p := k) (fun q hq hx => ?_) (List.mem_range.mpr hk8) ?_ ?_
            · unfold aheadB at hx
              cases hq' : pickS S k q with
              | none => rw [hq'] at hx; cases hx
              | some m2 =>
                rw [hq'] at hx
                simp only [Bool.and_eq_true, decide_eq_true_iff] at hx
                obtain ⟨h1, h2, h3⟩ := hx
                obtain ⟨m0, hm0⟩ := pick_back hq'
                rw [pick_at (List.mem_range.mp hq) hm0] at hq'
                unfold aheadB
                rw [hm0]
                simp only [Bool.and_eq_true, decide_eq_true_iff]
                by_cases ek : q = k
                · rw [if_pos ek] at hq'
                  cases hq'
                  have h3 : m.age + 1 < 0 + (8 - m.base) := h3
                  omega
                · rw [if_neg ek] at hq'
                  cases hr0 : m0.ready with
                  | true =>
                    rw [if_pos hr0] at hq'
                    cases hq'
                    have h3 : m.age + 1 < m0.age + 1 + (8 - m.base) := h3
                    exact ⟨h1, rfl, by omega⟩
                  | false =>
                    rw [if_neg (by rw [hr0]; decide)] at hq'
                    cases hq'
                    rw [hr0] at h2
                    cases h2
            · unfold aheadB
              rw [hmk]
              simp only [Bool.and_eq_true, decide_eq_true_iff]
              refine ⟨fun z => e z.symm, hrk, ?_⟩
              rw [e1, e2] at hstd
              omega
            · unfold aheadB
              rw [pick_at hk8 hmk, if_pos rfl]
              simp only [Bool.and_eq_false_iff, decide_eq_false_iff_not]
              refine .inr (.inr ?_)
              show ¬ m.age + 1 < 0 + (8 - m.base)
              omega
          omega
        · have := hone m.base (m.age + 1)
          omega
end
end K24
set_option Elab.async false
set_option linter.all false
set_option maxRecDepth 100000
set_option maxHeartbeats 4000000
namespace K24
open PySem PySem.Spec PyProof.Rows L2 Wk
local macro_rules | `(tactic| walk_at "u1") => `(tactic| fail "no more")
local macro_rules | `(tactic| walk_at "pos") => `(tactic| first | assumption | omega | decide | (simp only [Int.ofNat_eq_natCast] at *; omega))
local macro_rules | `(tactic| walk_at "sz") => `(tactic| first
  | (simp only [List.length_cons, List.length_nil]; decide)
  | exact Evl.sz_of (by omega)
  | exact Evl.sz_lt (by omega)
  | exact Evl.sz_of (by simp only [List.length_map, List.length_append, List.length_cons, List.length_nil, List.length_replicate]; omega)
  | exact Evl.sz_lt (by simp only [List.length_map, List.length_append, List.length_cons, List.length_nil, List.length_replicate]; omega))
local macro_rules | `(tactic| walk_at "cond") => `(tactic| first
  | exact Or.inr ⟨by decide, by decide⟩
  | (show (0 : Int) < _; first | decide | assumption | omega)
  | exact Or.inl ⟨by omega, by omega⟩
  | exact Or.inr ⟨by omega, by omega⟩
  | exact ⟨by decide, by decide, by decide⟩
  | exact log2_lt (by omega) (by omega)
  | exact ⟨by omega, by omega⟩)
local macro_rules | `(tactic| walk_at "ty") => `(tactic| first
  | exact ty_int | exact ty_bl | exact ty_str | exact ty_non
  | exact ty_L (by assumption) | exact ty_T (by assumption)
  | exact ty_L (SqL.of (by assumption)) | exact ty_T (SqT.of (by assumption)))
local macro_rules | `(tactic| walk_at "kit") => `(tactic| first
  | exact k_ii | exact k_ib | exact k_is | exact k_il | exact k_it
  | exact k_bb | exact k_bi | exact k_bs | exact k_bl | exact k_bt
  | exact k_ss | exact k_sb | exact k_si | exact k_sl | exact k_st
  | exact k_ll | exact k_lb | exact k_li | exact k_ls | exact k_lt
  | exact k_tt | exact k_tb | exact k_ti | exact k_ts | exact k_tl
  | exact k_nn | exact k_ni | exact k_ns | exact k_nl | exact k_nt)
local macro_rules | `(tactic| walk_at "s1") => `(tactic| first
  | with_reducible refine w_seq ?_
  | with_reducible refine w_set ?_
  | with_reducible refine w_op ?_
  | ((with_reducible refine' w_var ?h1 ?_); (case h1 => rfl))
  | with_reducible refine w_c ?_
  | with_reducible refine w_cb ?_
  | with_reducible refine w_cons ?_
  | with_reducible refine w_nil ?_
  | with_reducible refine w_I0 ?_
  | ((with_reducible refine' w_I ?c1 ?_); case c1 => walk_at "cond")
  | with_reducible refine w_ret ?_
  | with_reducible refine w_next ?_
  | with_reducible refine w_ifS ?_
  | with_reducible refine w_test ?_
  | with_reducible refine w_tB ?_
  | with_reducible refine w_k ?_
  | with_reducible refine w_eqI ?_
  | with_reducible refine w_neI ?_
  | with_reducible refine w_eqS ?_
  | with_reducible refine w_neS ?_
  | with_reducible refine w_and ?_
  | with_reducible refine w_or ?_
  | with_reducible refine w_not ?_
  | with_reducible refine w_andV ?_
  | with_reducible refine w_orV ?_
  | with_reducible refine w_notV ?_
  | with_reducible refine w_ifE ?_
  | with_reducible refine w_true ?_
  | with_reducible refine w_false ?_
  | with_reducible refine w_ntrue ?_
  | with_reducible refine w_nfalse ?_
  | with_reducible refine w_call ?_
  | with_reducible refine c_int ?_
  | with_reducible refine c_abs ?_
  | with_reducible refine c_max ?_
  | with_reducible refine c_min ?_
  | with_reducible refine w_drop ?_
  | with_reducible refine w_sfld ?_
  | with_reducible refine w_meth ?_
  | with_reducible refine w_make ?_
  | with_reducible refine w_prop ?_
  | with_reducible refine w_callK ?_
  | with_reducible refine w_callN ?_
  | with_reducible refine w_star ?_
  | with_reducible refine w_gcons ?_
  | with_reducible refine w_gname ?_
  | with_reducible refine w_gnil ?_
  | with_reducible refine w_retN ?_
  | with_reducible refine w_tup ?_
  | with_reducible refine w_lst ?_
  | with_reducible refine w_fld ?_
  | with_reducible refine w_bm ?_
  | with_reducible refine w_bm0 ?_
  | with_reducible refine w_forL ?_
  | with_reducible refine w_forT ?_
  | with_reducible refine w_forS ?_
  | with_reducible refine w_forR ?_
  | with_reducible refine w_lcR ?_
  | with_reducible refine w_lcL ?_
  | with_reducible refine w_lcT ?_
  | with_reducible refine w_isN ?_
  | with_reducible refine w_notN ?_
  | with_reducible refine w_asg ?_
  | with_reducible refine w_gsub ?_
  | ((with_reducible refine' w_aug ?h1 ?_); (case h1 => rfl))
  | with_reducible refine w_augS ?_
  | with_reducible refine w_ipI ?_
  | with_reducible refine w_un ?_
  | with_reducible refine w_U ?_
  | ((with_reducible refine' w_iteF ?f1 ?_); case f1 => (first | (intro h; cases h; done) | decide))
  | ((with_reducible refine' w_iteT ?f1 ?_); case f1 => rfl)
  | ((with_reducible refine' w_iteNF ?f1 ?_); case f1 => rfl)
  | ((with_reducible refine' w_iteNT ?f1 ?_); case f1 => (first | (intro h; cases h; done) | decide))
  | ((with_reducible refine' c_isi ?t1 ?k1 ?_); (case t1 => walk_at "ty"); (case k1 => walk_at "kit"))
  | ((with_reducible refine' w_eq ?e1 ?_); case e1 => rfl)
  | ((with_reducible refine' w_ne ?e1 ?_); case e1 => rfl)
  | walk_at "u1")
local macro_rules | `(tactic| walk_at "s") => `(tactic| repeat walk_at "s1")
local macro_rules | `(tactic| walk_at "mem") => `(tactic| first | with_reducible exact List.mem_cons_self .. | ((with_reducible refine' List.mem_cons_of_mem _ ?q); (case q => walk_at "mem")) | assumption | ((with_reducible refine' List.mem_append_right _ ?q); (case q => walk_at "mem")) | (exact List.mem_append_left _ (by assumption)))
local macro_rules | `(tactic| walk_at "pk") => `(tactic| first | with_reducible exact Pk.here | ((with_reducible refine' Pk.there ?q); (case q => walk_at "pk")) | ((with_reducible refine' Pk.app ?q); (case q => walk_at "pk")))
local macro_rules | `(tactic| walk_at "pkb") => `(tactic| first | with_reducible exact PkB.here | ((with_reducible refine' PkB.there ?q); (case q => walk_at "pkb")) | ((with_reducible refine' PkB.app ?q); (case q => walk_at "pkb")))
local macro_rules | `(tactic| walk_at "spl") => `(tactic| first | with_reducible exact Spl.nil | ((with_reducible refine' Spl.cons ?h ?t); (case h => walk_at "pk"); (case t => walk_at "spl")) | ((with_reducible refine' Spl.blk ?h ?t); (case h => walk_at "pkb"); (case t => walk_at "spl")))
local macro_rules | `(tactic| walk_at "sbx") => `(tactic| first | with_reducible exact Sb.refl | with_reducible exact Sb.nil | with_reducible exact Sb.left | ((with_reducible refine' Sb.cons ?h ?t); (case h => walk_at "pk"); (case t => walk_at "sbx")) | ((with_reducible refine' Sb.blk ?h ?t); (case h => walk_at "pkb"); (case t => walk_at "sbx")) | ((with_reducible refine' Sb.drop ?q); (case q => walk_at "sbx")) | ((with_reducible refine' Sb.right ?q); (case q => walk_at "sbx")))
local macro_rules | `(tactic| walk_at "hd") => `(tactic| first | assumption | exact Hd.sb (by assumption) (by walk_at "sbx"))
local macro_rules | `(tactic| walk_at "sq") => `(tactic| first
  | assumption
  | exact Hd.sqL (by assumption) (by walk_at "mem")
  | exact Hd.sqT (by assumption) (by walk_at "mem")
  | exact Hd.sqF (by assumption) (by walk_at "mem")
  | (refine .inl ?_; walk_at "sq")
  | (refine .inr ?_; walk_at "sq"))
local macro_rules | `(tactic| walk_at "at") => `(tactic| first | rfl | assumption | exact atI_nat (by assumption))
local macro_rules | `(tactic| walk_at "dn1") => `(tactic| first
  | exact Dn.int | exact Dn.str | exact Dn.non | exact Dn.bl | assumption
  | ((refine' Dn.tp ?a1 ?m1 ?l1 ?p1); (case a1 => assumption); (case m1 => walk_at "mem"); (case l1 => (simp only [List.length_cons, List.length_nil]; omega)); (case p1 => walk_at "dns"))
  | ((refine' Dn.lt ?a1 ?m1 ?l1 ?p1); (case a1 => assumption); (case m1 => walk_at "mem"); (case l1 => (simp only [List.length_cons, List.length_nil]; omega)); (case p1 => walk_at "dns")))
local macro_rules | `(tactic| walk_at "dns") => `(tactic| first | exact Paired.nil | exact Dn.ints | ((refine' Paired.cons ?a1 ?b1); (case a1 => walk_at "dn1"); (case b1 => walk_at "dns")))
local macro_rules | `(tactic| walk_at "g1") => `(tactic| first
  | ((with_reducible refine' g_ixI ?h1 ?h2 ?h3 ?_); (case h1 => assumption); (case h2 => walk_at "mem"); (case h3 => omega); intro z hz)
  | ((with_reducible refine' g_ixIT ?h1 ?h2 ?h3 ?_); (case h1 => assumption); (case h2 => walk_at "mem"); (case h3 => omega); intro z hz)
  | ((with_reducible refine' g_setI ?h1 ?h2 ?h3 ?_); (case h1 => assumption); (case h2 => walk_at "pk"); (case h3 => omega); intro H2 hh2)
  | ((with_reducible refine' w_ixL ?h1 ?h2 ?_); (case h1 => walk_at "sq"); (case h2 => walk_at "at"))
  | ((with_reducible refine' w_ixT ?h1 ?h2 ?_); (case h1 => walk_at "sq"); (case h2 => walk_at "at"))
  | ((with_reducible refine' w_ixAny ?h1 ?h2 ?_); (case h1 => walk_at "sq"); (case h2 => walk_at "at"))
  | ((with_reducible refine' c_lenA ?h1 ?_); (case h1 => walk_at "sq"))
  | ((with_reducible refine' c_isi ?t1 ?k1 ?_); (case t1 => first | exact ty_T (by walk_at "sq") | exact ty_L (by walk_at "sq")); (case k1 => walk_at "kit"))
  | ((with_reducible refine' g_lst ?h1 ?h2 ?_); (case h1 => assumption); (case h2 => walk_at "sz"); intro p H2 hh2)
  | ((with_reducible refine' g_tup ?h1 ?h2 ?_); (case h1 => assumption); (case h2 => walk_at "sz"); intro p H2 hh2)
  | ((with_reducible refine' g_dict ?h1 ?_); (case h1 => assumption); intro p H2 hh2)
  | ((with_reducible refine' g_listL ?h1 ?h2 ?_); (case h1 => assumption); (case h2 => walk_at "sq"); intro p H2 hh2)
  | ((with_reducible refine' g_listT ?h1 ?h2 ?_); (case h1 => assumption); (case h2 => walk_at "sq"); intro p H2 hh2)
  | ((with_reducible refine' g_tupL ?h1 ?h2 ?_); (case h1 => assumption); (case h2 => walk_at "sq"); intro p H2 hh2)
  | ((with_reducible refine' g_set ?h1 ?h2 ?h3 ?_); (case h1 => assumption); (case h2 => walk_at "pk"); (case h3 => first | rfl | assumption | exact Evl.ixN_nat (by first | omega | (simp only [List.length_cons, List.length_nil]; omega))); intro H2 hh2)
  | ((with_reducible refine' g_kbm ?h1 ?h2 ?_); (case h1 => assumption); (case h2 => walk_at "mem"))
  | ((with_reducible refine' g_kbm0 ?h1 ?h2 ?_); (case h1 => assumption); (case h2 => walk_at "mem"))
  | ((with_reducible refine' g_app ?h1 ?h2 ?h3 ?_); (case h1 => assumption); (case h2 => walk_at "pk"); (case h3 => walk_at "sz"); intro H2 hh2)
  | ((with_reducible refine' g_kapp ?h1 ?h2 ?h3 ?_); (case h1 => assumption); (case h2 => walk_at "pk"); (case h3 => walk_at "sz"); intro H2 hh2)
  | ((with_reducible refine' g_fld ?h1 ?h2 ?h3 ?h4 ?h5 ?_); (case h1 => assumption); (case h2 => walk_at "mem"); (case h3 => assumption); (case h4 => assumption); (case h5 => rfl))
  | ((with_reducible refine' g_sfld ?h1 ?h2 ?h3 ?h4 ?h5 ?_); (case h1 => assumption); (case h2 => walk_at "pk"); (case h3 => assumption); (case h4 => assumption); (case h5 => decide); intro H2 hh2)
  | ((with_reducible refine' g_meth ?h1 ?h2 ?h3 ?_); (case h1 => assumption); (case h2 => walk_at "mem"); (case h3 => rfl))
  | ((with_reducible refine' g_prop ?h1 ?h2 ?_); (case h1 => assumption); (case h2 => walk_at "mem"))
  | ((with_reducible refine' g_make ?h1 ?_); (case h1 => assumption); intro x H2 hh2)
  | ((with_reducible refine' g_cat ?h1 ?h2 ?h3 ?h4 ?_); (case h1 => assumption); (case h2 => walk_at "mem"); (case h3 => walk_at "mem"); (case h4 => walk_at "sz"); intro p H2 hh2)
  | ((with_reducible refine' g_inT ?h1 ?h2 ?h3 ?h4 ?h5 ?_); (case h1 => assumption); (case h2 => walk_at "mem"); (case h3 => rfl); (case h4 => rfl); (case h5 => rfl)))
local macro_rules | `(tactic| walk_at "gs") => `(tactic| repeat first | walk_at "s1" | walk_at "g1")
local macro_rules | `(tactic| walk_at "ite") => `(tactic| first
  | ((with_reducible refine' w_iteT ?h1 ?_); (case h1 => omega))
  | ((with_reducible refine' w_iteF ?h1 ?_); (case h1 => omega))
  | (with_reducible refine w_ite ?_ ?_ <;> intro hq)
  | ((with_reducible refine' w_iteNT ?h1 ?_); (case h1 => omega))
  | ((with_reducible refine' w_iteNF ?h1 ?_); (case h1 => omega))
  | (with_reducible refine w_iteN ?_ ?_ <;> intro hq))
local macro_rules | `(tactic| walk_at "go") => `(tactic| repeat' first | walk_at "s1" | walk_at "g1" | walk_at "ite")
local macro_rules | `(tactic| walk_at "g1") => `(tactic| first
  | ((with_reducible refine' g_take1 ?h1 ?h2 ?h3 ?h4 ?_); (case h1 => assumption); (case h2 => walk_at "spl"); (case h3 => omega); (case h4 => omega); intro k H2 hk1 hh2)
  | ((with_reducible refine' g_take ?h1 ?h2 ?h4 ?_); (case h1 => assumption); (case h2 => walk_at "spl"); (case h4 => omega); intro k H2 hk1 hh2)
  | ((with_reducible refine' g_betweenN ?h1 ?h2 ?h5 ?h3 ?h4 ?_); (case h1 => assumption); (case h2 => walk_at "spl"); (case h5 => omega); (case h3 => omega); (case h4 => omega); intro k H2 hk1 hk2 hh2)
  | ((with_reducible refine' g_between ?h1 ?h2 ?h3 ?h4 ?_); (case h1 => assumption); (case h2 => walk_at "spl"); (case h3 => omega); (case h4 => omega); intro k H2 hk1 hk2 hh2)
  | ((with_reducible refine' g_size ?h1 ?h2 ?h3 ?h4 ?_); (case h1 => assumption); (case h2 => walk_at "spl"); (case h3 => omega); (case h4 => omega); intro k H2 hk1 hh2)
  | ((with_reducible refine' g_word ?h1 ?h2 ?_); (case h1 => assumption); (case h2 => walk_at "spl"); intro k H2 hk1 hh2))
local macro_rules | `(tactic| walk_at "g1") => `(tactic| first | with_reducible refine w_sl ?_ | with_reducible refine w_part ?_ | with_reducible refine w_noPart ?_ | with_reducible refine w_exI ?_)
local macro_rules | `(tactic| walk_at "g1") => `(tactic| first | with_reducible refine w_din ?_ | with_reducible refine w_dnotin ?_ | with_reducible refine w_dget ?_ | with_reducible refine w_dput ?_ | with_reducible refine w_ddel ?_ | with_reducible refine w_dpop ?_)
section
variable {P : Program} {w : World} {K : PySem.W.Frag} {mg : Str → Option Value} {base : Heap} {aREG aOPS : Addr}
/-! ### the log of a script -/
def rowOf : Deed → Option Nat → LRow
  | .enter k p _, _ => .enter k p
  | .pick, w => .pick w
  | .leave k, _ => .leave k
  | .wake k, _ => .wake k
  | .sleep k, _ => .sleep k
  | .lend k p, _ => .lend k p
/-- who was picked, as a value -/
def whoV : Option Nat → V
  | none => .non
  | some p => .int p
/-- all enter ready -/
def Awake : Deed → Prop
  | .enter _ _ r => r = true
  | _ => True
inductive LogOf : List LRow → AgS → Prop where
  | nil : LogOf [] fun _ => none
  | snoc {rs : List LRow} {S S' : AgS} {d : Deed} {w : Option Nat} : LogOf rs S → ok1 (domS S) d → Awake d → Out S d (whoV w) S' → LogOf (rs ++ [rowOf d w]) S'
/-- the age of one that is ready -/
def ageR (S : AgS) (p : Nat) : Nat := match S p with
  | some m => if m.ready = true then m.age else 0
  | none => 0
theorem LogOf.good {rs : List LRow} {S : AgS} (h : LogOf rs S) : Good S := by
  induction h with
  | nil => exact fun k m e => by cases e
  | snoc _ _ _ ho ih => exact ho.good ih
theorem rdy_some {S : AgS} {p : Nat} {m : Mb} (h : S p = some m) : rdyB S p = m.ready := by unfold rdyB; rw [h]; rfl
theorem age_some {S : AgS} {p : Nat} {m : Mb} (h : S p = some m) : ageR S p = if m.ready = true then m.age else 0 := by unfold ageR; rw [h]
theorem rdy_none {S : AgS} {p : Nat} (h : S p = none) : rdyB S p = false := by unfold rdyB; rw [h]; rfl
theorem age_none {S : AgS} {p : Nat} (h : S p = none) : ageR S p = 0 := by unfold ageR; rw [h]
theorem rdy_same {S S' : AgS} {p : Nat} (h : S' p = S p) : rdyB S' p = rdyB S p ∧ ageR S' p = ageR S p := by unfold rdyB ageR; rw [h]; exact ⟨rfl, rfl⟩
theorem LogOf.lt {rs : List LRow} {S : AgS} (h : LogOf rs S) : ∀ k, domS S k = true → k < 8 := by
  induction h with
  | nil => exact fun k e => by cases e
  | @snoc rs S S' d w _ hok _ ho ih =>
    intro k hk
    rw [ho.dom hok] at hk
    cases d with
    | enter k0 p r =>
      rcases Bool.or_eq_true_iff.mp hk with e | e
      · rw [of_decide_eq_true e]; exact hok.1
      · exact ih k e
    | leave k0 => exact ih k (Bool.and_eq_true_iff.mp hk).2
    | pick => exact ih k hk
    | wake k0 => exact ih k hk
    | sleep k0 => exact ih k hk
    | lend k0 p => exact ih k hk
theorem age_off {S : AgS} {p : Nat} (h : rdyB S p = false) : ageR S p = 0 := by
  cases e : S p with
  | none => exact age_none e
  | some m => rw [age_some e, if_neg (by rw [← rdy_some e, h]; decide)]
theorem who_non {w : Option Nat} (h : whoV w = .non) : w = none := by cases w with | none => rfl | some x => cases h
theorem who_int {w : Option Nat} {q : Nat} (h : whoV w = .int (q : Int)) : w = some q := by
  cases w with
  | none => cases h
  | some x =>
    have e : (x : Int) = (q : Int) := by injection h
    rw [show x = q by omega]
/-- both walks, after the log of a script -/
theorem walks {rs : List LRow} {S : AgS} (h : LogOf rs S) (p : Nat) : ∃ b, ageR S p ≤ b ∧ lwAll p rs = (rdyB S p, ageR S p, b) ∧ pwAll p rs = (b, ageR S p, rdyB S p) := by
  induction h with
  | nil => exact ⟨0, Nat.le_refl _, rfl, rfl⟩
  | @snoc rs S S' d w hL hok haw ho ih =>
    obtain ⟨b, hb, e1, e2⟩ := ih
    have s1 : lwAll p (rs ++ [rowOf d w]) = lwStep p (lwAll p rs) (rowOf d w) := List.foldl_append ..
    have s2 : pwAll p (rs ++ [rowOf d w]) = pwStep p (pwAll p rs) (rowOf d w) := List.foldl_append ..
    rw [s1, s2, e1, e2]
    have hlt := hL.lt
    have hG := hL.good
    rcases ho with ⟨rfl, ⟨hnil, hw, rfl⟩ | ⟨q, hp, hw, rfl⟩⟩ | ⟨hn, hw, rfl⟩
    · rw [who_non hw]
      have hoff : rdyB S' p = false := by
        cases e : rdyB S' p with
        | false => rfl
        | true =>
          have hs : (S' p).isSome = true := by
            cases e3 : S' p with
            | none => rw [rdy_none e3] at e; cases e
            | some m => rfl
          have : p ∈ readyL S' := List.mem_filter.mpr ⟨keysS_mem.mpr ⟨hlt p hs, hs⟩, e⟩
          rw [hnil] at this
          cases this
      rw [hoff, age_off hoff]
      exact ⟨b, Nat.zero_le _, rfl, pw_off⟩
    · rw [who_int hw]
      by_cases e : q = p
      · subst e
        obtain ⟨h8, m, hm, hr⟩ := ready_mem.mp hp.1
        have hS' := pick_at (k := q) h8 hm
        rw [if_pos rfl] at hS'
        have r' : rdyB (pickS S q) q = rdyB S q := (rdy_some hS').trans (rdy_some hm).symm
        have a' : ageR (pickS S q) q = 0 := by rw [age_some hS']; split <;> rfl
        rw [r', a']
        exact ⟨b, Nat.zero_le _, lw_hit, pw_hit⟩
      · cases hm : S p with
        | none =>
          have hS' : pickS S q p = none := by
            cases e3 : pickS S q p with
            | none => rfl
            | some m' => obtain ⟨m, hm2⟩ := pick_back e3; rw [hm] at hm2; cases hm2
          rw [rdy_none hm, age_none hm, rdy_none hS', age_none hS']
          exact ⟨b, Nat.zero_le _, lw_off e, pw_off⟩
        | some m =>
          have h8 := hlt p (by show (S p).isSome = true; rw [hm]; rfl)
          have hS' := pick_at (k := q) h8 hm
          rw [if_neg (fun z => e z.symm)] at hS'
          cases hr : m.ready with
          | true =>
            rw [if_pos hr] at hS'
            have r' : rdyB (pickS S q) p = true := (rdy_some hS').trans hr
            have a' : ageR (pickS S q) p = m.age + 1 := by rw [age_some hS', show (agedM m).ready = m.ready from rfl, if_pos hr]; rfl
            rw [r', a', rdy_some hm, hr, age_some hm, if_pos hr]
            exact ⟨max b (m.age + 1), Nat.le_max_right .., lw_run e, pw_run fun z => e (by cases z; rfl)⟩
          | false =>
            rw [if_neg (by rw [hr]; decide)] at hS'
            obtain ⟨r', a'⟩ := rdy_same (hS'.trans hm.symm)
            have hoff : rdyB S p = false := (rdy_some hm).trans hr
            rw [r', a', hoff, age_off hoff]
            exact ⟨b, Nat.zero_le _, lw_off e, pw_off⟩
    · refine ⟨b, ?_⟩
      by_cases e : p = pidOf d
      · cases d with
        | pick => exact absurd rfl hn
        | enter k pr r =>
          have e : p = k := e
          subst e
          have hr : r = true := haw
          subst hr
          have hS' : stepS S (.enter p pr true) p = some (newM pr true) := upS_same ..
          have hS : S p = none := by
            have := hok.2.2
            cases e3 : S p with
            | none => rfl
            | some m => rw [show domS S p = (S p).isSome from rfl, e3] at this; cases this
          rw [rdy_some hS', age_some hS', rdy_none hS, age_none hS]
          exact ⟨Nat.zero_le _, if_pos rfl, if_pos rfl⟩
        | leave k =>
          have e : p = k := e
          subst e
          have hS' : stepS S (.leave p) p = none := upS_same ..
          rw [rdy_none hS', age_none hS']
          exact ⟨Nat.zero_le _, if_pos rfl, if_pos rfl⟩
        | wake k =>
          have e : p = k := e
          subst e
          obtain ⟨m, hm⟩ := Option.isSome_iff_exists.mp (show (S p).isSome = true from hok)
          have hS' : stepS S (.wake p) p = some (wakeM m) := by rw [show stepS S (.wake p) p = (S p).map wakeM from upS_same .., hm]; rfl
          have a' : ageR (stepS S (.wake p)) p = ageR S p := by
            rw [age_some hS', age_some hm, show (wakeM m).ready = true from rfl, if_pos rfl]
            show m.age = _
            cases hr : m.ready with
            | true => rw [if_pos rfl]
            | false => rw [if_neg (by decide), hG p m hm hr]
          rw [rdy_some hS', a']
          exact ⟨hb, if_pos rfl, if_pos rfl⟩
        | sleep k =>
          have e : p = k := e
          subst e
          obtain ⟨m, hm⟩ := Option.isSome_iff_exists.mp (show (S p).isSome = true from hok)
          have hS' : stepS S (.sleep p) p = some (sleepM m) := by rw [show stepS S (.sleep p) p = (S p).map sleepM from upS_same .., hm]; rfl
          rw [rdy_some hS', age_some hS']
          exact ⟨Nat.zero_le _, if_pos rfl, if_pos rfl⟩
        | lend k pr =>
          have e : p = k := e
          subst e
          obtain ⟨m, hm⟩ := Option.isSome_iff_exists.mp (show (S p).isSome = true from hok.2)
          have hS' : stepS S (.lend p pr) p = some { m with lent := pr } := by rw [show stepS S (.lend p pr) p = (S p).map (fun m => { m with lent := pr }) from upS_same .., hm]; rfl
          rw [rdy_some hS', age_some hS', rdy_some hm, age_some hm]
          exact ⟨by rw [← age_some hm]; exact hb, rfl, rfl⟩
      · obtain ⟨r', a'⟩ := rdy_same (step_ne e)
        rw [r', a']
        cases d with
        | pick => exact absurd rfl hn
        | enter k pr r => exact ⟨hb, if_neg fun z => e z.symm, if_neg fun z => e z.symm⟩
        | leave k => exact ⟨hb, if_neg fun z => e z.symm, if_neg fun z => e z.symm⟩
        | wake k => exact ⟨hb, if_neg fun z => e z.symm, if_neg fun z => e z.symm⟩
        | sleep k => exact ⟨hb, if_neg fun z => e z.symm, if_neg fun z => e z.symm⟩
        | lend k pr => exact ⟨hb, rfl, rfl⟩
end
end K24
set_option Elab.async false
set_option linter.all false
set_option maxRecDepth 100000
set_option maxHeartbeats 4000000
namespace K24
open PySem PySem.Spec PyProof.Rows L2 Wk
local macro_rules | `(tactic| walk_at "u1") => `(tactic| fail "no more")
local macro_rules | `(tactic| walk_at "pos") => `(tactic| first | assumption | omega | decide | (simp only [Int.ofNat_eq_natCast] at *; omega))
local macro_rules | `(tactic| walk_at "sz") => `(tactic| first
  | (simp only [List.length_cons, List.length_nil]; decide)
  | exact Evl.sz_of (by omega)
  | exact Evl.sz_lt (by omega)
  | exact Evl.sz_of (by simp only [List.length_map, List.length_append, List.length_cons, List.length_nil, List.length_replicate]; omega)
  | exact Evl.sz_lt (by simp only [List.length_map, List.length_append, List.length_cons, List.length_nil, List.length_replicate]; omega))
local macro_rules | `(tactic| walk_at "cond") => `(tactic| first
  | exact Or.inr ⟨by decide, by decide⟩
  | (show (0 : Int) < _; first | decide | assumption | omega)
  | exact Or.inl ⟨by omega, by omega⟩
  | exact Or.inr ⟨by omega, by omega⟩
  | exact ⟨by decide, by decide, by decide⟩
  | exact log2_lt (by omega) (by omega)
  | exact ⟨by omega, by omega⟩)
local macro_rules | `(tactic| walk_at "ty") => `(tactic| first
  | exact ty_int | exact ty_bl | exact ty_str | exact ty_non
  | exact ty_L (by assumption) | exact ty_T (by assumption)
  | exact ty_L (SqL.of (by assumption)) | exact ty_T (SqT.of (by assumption)))
local macro_rules | `(tactic| walk_at "kit") => `(tactic| first
  | exact k_ii | exact k_ib | exact k_is | exact k_il | exact k_it
  | exact k_bb | exact k_bi | exact k_bs | exact k_bl | exact k_bt
  | exact k_ss | exact k_sb | exact k_si | exact k_sl | exact k_st
  | exact k_ll | exact k_lb | exact k_li | exact k_ls | exact k_lt
  | exact k_tt | exact k_tb | exact k_ti | exact k_ts | exact k_tl
  | exact k_nn | exact k_ni | exact k_ns | exact k_nl | exact k_nt)
local macro_rules | `(tactic| walk_at "s1") => `(tactic| first
  | with_reducible refine w_seq ?_
  | with_reducible refine w_set ?_
  | with_reducible refine w_op ?_
  | ((with_reducible refine' w_var ?h1 ?_); (case h1 => rfl))
  | with_reducible refine w_c ?_
  | with_reducible refine w_cb ?_
  | with_reducible refine w_cons ?_
  | with_reducible refine w_nil ?_
  | with_reducible refine w_I0 ?_
  | ((with_reducible refine' w_I ?c1 ?_); case c1 => walk_at "cond")
  | with_reducible refine w_ret ?_
  | with_reducible refine w_next ?_
  | with_reducible refine w_ifS ?_
  | with_reducible refine w_test ?_
  | with_reducible refine w_tB ?_
  | with_reducible refine w_k ?_
  | with_reducible refine w_eqI ?_
  | with_reducible refine w_neI ?_
  | with_reducible refine w_eqS ?_
  | with_reducible refine w_neS ?_
  | with_reducible refine w_and ?_
  | with_reducible refine w_or ?_
  | with_reducible refine w_not ?_
  | with_reducible refine w_andV ?_
  | with_reducible refine w_orV ?_
  | with_reducible refine w_notV ?_
  | with_reducible refine w_ifE ?_
  | with_reducible refine w_true ?_
  | with_reducible refine w_false ?_
  | with_reducible refine w_ntrue ?_
  | with_reducible refine w_nfalse ?_
  | with_reducible refine w_call ?_
  | with_reducible refine c_int ?_
  | with_reducible refine c_abs ?_
  | with_reducible refine c_max ?_
  | with_reducible refine c_min ?_
  | with_reducible refine w_drop ?_
  | with_reducible refine w_sfld ?_
  | with_reducible refine w_meth ?_
  | with_reducible refine w_make ?_
  | with_reducible refine w_prop ?_
  | with_reducible refine w_callK ?_
  | with_reducible refine w_callN ?_
  | with_reducible refine w_star ?_
  | with_reducible refine w_gcons ?_
  | with_reducible refine w_gname ?_
  | with_reducible refine w_gnil ?_
  | with_reducible refine w_retN ?_
  | with_reducible refine w_tup ?_
  | with_reducible refine w_lst ?_
  | with_reducible refine w_fld ?_
  | with_reducible refine w_bm ?_
  | with_reducible refine w_bm0 ?_
  | with_reducible refine w_forL ?_
  | with_reducible refine w_forT ?_
  | with_reducible refine w_forS ?_
  | with_reducible refine w_forR ?_
  | with_reducible refine w_lcR ?_
  | with_reducible refine w_lcL ?_
  | with_reducible refine w_lcT ?_
  | with_reducible refine w_isN ?_
  | with_reducible refine w_notN ?_
  | with_reducible refine w_asg ?_
  | with_reducible refine w_gsub ?_
  | ((with_reducible refine' w_aug ?h1 ?_); (case h1 => rfl))
  | with_reducible refine w_augS ?_
  | with_reducible refine w_ipI ?_
  | with_reducible refine w_un ?_
  | with_reducible refine w_U ?_
  | ((with_reducible refine' w_iteF ?f1 ?_); case f1 => (first | (intro h; cases h; done) | decide))
  | ((with_reducible refine' w_iteT ?f1 ?_); case f1 => rfl)
  | ((with_reducible refine' w_iteNF ?f1 ?_); case f1 => rfl)
  | ((with_reducible refine' w_iteNT ?f1 ?_); case f1 => (first | (intro h; cases h; done) | decide))
  | ((with_reducible refine' c_isi ?t1 ?k1 ?_); (case t1 => walk_at "ty"); (case k1 => walk_at "kit"))
  | ((with_reducible refine' w_eq ?e1 ?_); case e1 => rfl)
  | ((with_reducible refine' w_ne ?e1 ?_); case e1 => rfl)
  | walk_at "u1")
local macro_rules | `(tactic| walk_at "s") => `(tactic| repeat walk_at "s1")
local macro_rules | `(tactic| walk_at "mem") => `(tactic| first | with_reducible exact List.mem_cons_self .. | ((with_reducible refine' List.mem_cons_of_mem _ ?q); (case q => walk_at "mem")) | assumption | ((with_reducible refine' List.mem_append_right _ ?q); (case q => walk_at "mem")) | (exact List.mem_append_left _ (by assumption)))
local macro_rules | `(tactic| walk_at "pk") => `(tactic| first | with_reducible exact Pk.here | ((with_reducible refine' Pk.there ?q); (case q => walk_at "pk")) | ((with_reducible refine' Pk.app ?q); (case q => walk_at "pk")))
local macro_rules | `(tactic| walk_at "pkb") => `(tactic| first | with_reducible exact PkB.here | ((with_reducible refine' PkB.there ?q); (case q => walk_at "pkb")) | ((with_reducible refine' PkB.app ?q); (case q => walk_at "pkb")))
local macro_rules | `(tactic| walk_at "spl") => `(tactic| first | with_reducible exact Spl.nil | ((with_reducible refine' Spl.cons ?h ?t); (case h => walk_at "pk"); (case t => walk_at "spl")) | ((with_reducible refine' Spl.blk ?h ?t); (case h => walk_at "pkb"); (case t => walk_at "spl")))
local macro_rules | `(tactic| walk_at "sbx") => `(tactic| first | with_reducible exact Sb.refl | with_reducible exact Sb.nil | with_reducible exact Sb.left | ((with_reducible refine' Sb.cons ?h ?t); (case h => walk_at "pk"); (case t => walk_at "sbx")) | ((with_reducible refine' Sb.blk ?h ?t); (case h => walk_at "pkb"); (case t => walk_at "sbx")) | ((with_reducible refine' Sb.drop ?q); (case q => walk_at "sbx")) | ((with_reducible refine' Sb.right ?q); (case q => walk_at "sbx")))
local macro_rules | `(tactic| walk_at "hd") => `(tactic| first | assumption | exact Hd.sb (by assumption) (by walk_at "sbx"))
local macro_rules | `(tactic| walk_at "sq") => `(tactic| first
  | assumption
  | exact Hd.sqL (by assumption) (by walk_at "mem")
  | exact Hd.sqT (by assumption) (by walk_at "mem")
  | exact Hd.sqF (by assumption) (by walk_at "mem")
  | (refine .inl ?_; walk_at "sq")
  | (refine .inr ?_; walk_at "sq"))
local macro_rules | `(tactic| walk_at "at") => `(tactic| first | rfl | assumption | exact atI_nat (by assumption))
local macro_rules | `(tactic| walk_at "dn1") => `(tactic| first
  | exact Dn.int | exact Dn.str | exact Dn.non | exact Dn.bl | assumption
  | ((refine' Dn.tp ?a1 ?m1 ?l1 ?p1); (case a1 => assumption); (case m1 => walk_at "mem"); (case l1 => (simp only [List.length_cons, List.length_nil]; omega)); (case p1 => walk_at "dns"))
  | ((refine' Dn.lt ?a1 ?m1 ?l1 ?p1); (case a1 => assumption); (case m1 => walk_at "mem"); (case l1 => (simp only [List.length_cons, List.length_nil]; omega)); (case p1 => walk_at "dns")))
local macro_rules | `(tactic| walk_at "dns") => `(tactic| first | exact Paired.nil | exact Dn.ints | ((refine' Paired.cons ?a1 ?b1); (case a1 => walk_at "dn1"); (case b1 => walk_at "dns")))
local macro_rules | `(tactic| walk_at "g1") => `(tactic| first
  | ((with_reducible refine' g_ixI ?h1 ?h2 ?h3 ?_); (case h1 => assumption); (case h2 => walk_at "mem"); (case h3 => omega); intro z hz)
  | ((with_reducible refine' g_ixIT ?h1 ?h2 ?h3 ?_); (case h1 => assumption); (case h2 => walk_at "mem"); (case h3 => omega); intro z hz)
  | ((with_reducible refine' g_setI ?h1 ?h2 ?h3 ?_); (case h1 => assumption); (case h2 => walk_at "pk"); (case h3 => omega); intro H2 hh2)
  | ((with_reducible refine' w_ixL ?h1 ?h2 ?_); (case h1 => walk_at "sq"); (case h2 => walk_at "at"))
  | ((with_reducible refine' w_ixT ?h1 ?h2 ?_); (case h1 => walk_at "sq"); (case h2 => walk_at "at"))
  | ((with_reducible refine' w_ixAny ?h1 ?h2 ?_); (case h1 => walk_at "sq"); (case h2 => walk_at "at"))
  | ((with_reducible refine' c_lenA ?h1 ?_); (case h1 => walk_at "sq"))
  | ((with_reducible refine' c_isi ?t1 ?k1 ?_); (case t1 => first | exact ty_T (by walk_at "sq") | exact ty_L (by walk_at "sq")); (case k1 => walk_at "kit"))
  | ((with_reducible refine' g_lst ?h1 ?h2 ?_); (case h1 => assumption); (case h2 => walk_at "sz"); intro p H2 hh2)
  | ((with_reducible refine' g_tup ?h1 ?h2 ?_); (case h1 => assumption); (case h2 => walk_at "sz"); intro p H2 hh2)
  | ((with_reducible refine' g_dict ?h1 ?_); (case h1 => assumption); intro p H2 hh2)
  | ((with_reducible refine' g_listL ?h1 ?h2 ?_); (case h1 => assumption); (case h2 => walk_at "sq"); intro p H2 hh2)
  | ((with_reducible refine' g_listT ?h1 ?h2 ?_); (case h1 => assumption); (case h2 => walk_at "sq"); intro p H2 hh2)
  | ((with_reducible refine' g_tupL ?h1 ?h2 ?_); (case h1 => assumption); (case h2 => walk_at "sq"); intro p H2 hh2)
  | ((with_reducible refine' g_set ?h1 ?h2 ?h3 ?_); (case h1 => assumption); (case h2 => walk_at "pk"); (case h3 => first | rfl | assumption | exact Evl.ixN_nat (by first | omega | (simp only [List.length_cons, List.length_nil]; omega))); intro H2 hh2)
  | ((with_reducible refine' g_kbm ?h1 ?h2 ?_); (case h1 => assumption); (case h2 => walk_at "mem"))
  | ((with_reducible refine' g_kbm0 ?h1 ?h2 ?_); (case h1 => assumption); (case h2 => walk_at "mem"))
  | ((with_reducible refine' g_app ?h1 ?h2 ?h3 ?_); (case h1 => assumption); (case h2 => walk_at "pk"); (case h3 => walk_at "sz"); intro H2 hh2)
  | ((with_reducible refine' g_kapp ?h1 ?h2 ?h3 ?_); (case h1 => assumption); (case h2 => walk_at "pk"); (case h3 => walk_at "sz"); intro H2 hh2)
  | ((with_reducible refine' g_fld ?h1 ?h2 ?h3 ?h4 ?h5 ?_); (case h1 => assumption); (case h2 => walk_at "mem"); (case h3 => assumption); (case h4 => assumption); (case h5 => rfl))
  | ((with_reducible refine' g_sfld ?h1 ?h2 ?h3 ?h4 ?h5 ?_); (case h1 => assumption); (case h2 => walk_at "pk"); (case h3 => assumption); (case h4 => assumption); (case h5 => decide); intro H2 hh2)
  | ((with_reducible refine' g_meth ?h1 ?h2 ?h3 ?_); (case h1 => assumption); (case h2 => walk_at "mem"); (case h3 => rfl))
  | ((with_reducible refine' g_prop ?h1 ?h2 ?_); (case h1 => assumption); (case h2 => walk_at "mem"))
  | ((with_reducible refine' g_make ?h1 ?_); (case h1 => assumption); intro x H2 hh2)
  | ((with_reducible refine' g_cat ?h1 ?h2 ?h3 ?h4 ?_); (case h1 => assumption); (case h2 => walk_at "mem"); (case h3 => walk_at "mem"); (case h4 => walk_at "sz"); intro p H2 hh2)
  | ((with_reducible refine' g_inT ?h1 ?h2 ?h3 ?h4 ?h5 ?_); (case h1 => assumption); (case h2 => walk_at "mem"); (case h3 => rfl); (case h4 => rfl); (case h5 => rfl)))
local macro_rules | `(tactic| walk_at "gs") => `(tactic| repeat first | walk_at "s1" | walk_at "g1")
local macro_rules | `(tactic| walk_at "ite") => `(tactic| first
  | ((with_reducible refine' w_iteT ?h1 ?_); (case h1 => omega))
  | ((with_reducible refine' w_iteF ?h1 ?_); (case h1 => omega))
  | (with_reducible refine w_ite ?_ ?_ <;> intro hq)
  | ((with_reducible refine' w_iteNT ?h1 ?_); (case h1 => omega))
  | ((with_reducible refine' w_iteNF ?h1 ?_); (case h1 => omega))
  | (with_reducible refine w_iteN ?_ ?_ <;> intro hq))
local macro_rules | `(tactic| walk_at "go") => `(tactic| repeat' first | walk_at "s1" | walk_at "g1" | walk_at "ite")
local macro_rules | `(tactic| walk_at "g1") => `(tactic| first
  | ((with_reducible refine' g_take1 ?h1 ?h2 ?h3 ?h4 ?_); (case h1 => assumption); (case h2 => walk_at "spl"); (case h3 => omega); (case h4 => omega); intro k H2 hk1 hh2)
  | ((with_reducible refine' g_take ?h1 ?h2 ?h4 ?_); (case h1 => assumption); (case h2 => walk_at "spl"); (case h4 => omega); intro k H2 hk1 hh2)
  | ((with_reducible refine' g_betweenN ?h1 ?h2 ?h5 ?h3 ?h4 ?_); (case h1 => assumption); (case h2 => walk_at "spl"); (case h5 => omega); (case h3 => omega); (case h4 => omega); intro k H2 hk1 hk2 hh2)
  | ((with_reducible refine' g_between ?h1 ?h2 ?h3 ?h4 ?_); (case h1 => assumption); (case h2 => walk_at "spl"); (case h3 => omega); (case h4 => omega); intro k H2 hk1 hk2 hh2)
  | ((with_reducible refine' g_size ?h1 ?h2 ?h3 ?h4 ?_); (case h1 => assumption); (case h2 => walk_at "spl"); (case h3 => omega); (case h4 => omega); intro k H2 hk1 hh2)
  | ((with_reducible refine' g_word ?h1 ?h2 ?_); (case h1 => assumption); (case h2 => walk_at "spl"); intro k H2 hk1 hh2))
local macro_rules | `(tactic| walk_at "g1") => `(tactic| first | with_reducible refine w_sl ?_ | with_reducible refine w_part ?_ | with_reducible refine w_noPart ?_ | with_reducible refine w_exI ?_)
local macro_rules | `(tactic| walk_at "g1") => `(tactic| first | with_reducible refine w_din ?_ | with_reducible refine w_dnotin ?_ | with_reducible refine w_dget ?_ | with_reducible refine w_dput ?_ | with_reducible refine w_ddel ?_ | with_reducible refine w_dpop ?_)
section
variable {P : Program} {w : World} {K : PySem.W.Frag} {mg : Str → Option Value} {base : Heap} {aREG aOPS : Addr}
/-! ### the bound along a log -/
structure Cnt where
  f : Nat → Bool
  most : Nat
  least : Nat → Option Nat
def lessO (o : Option Nat) (p : Nat) : Nat := match o with
  | none => p
  | some l => if p < l then p else l
def cStep (c : Cnt) : LRow → Cnt
  | .enter k p => ⟨fun j => decide (j = k) || c.f j, max c.most ((List.range 8).countP fun j => decide (j = k) || c.f j), fun j => if j = k then some (lessO (c.least k) p) else c.least j⟩
  | .leave k => ⟨fun j => !decide (j = k) && c.f j, c.most, c.least⟩
  | _ => c
def cAll (rs : List LRow) : Cnt := rs.foldl cStep ⟨fun _ => false, 1, fun _ => none⟩
theorem lessO_le (o : Option Nat) (p : Nat) : lessO o p ≤ p ∧ ∀ l, o = some l → lessO o p ≤ l := by
  cases o with
  | none => exact ⟨Nat.le_refl _, fun l e => by cases e⟩
  | some l0 =>
    show (if p < l0 then p else l0) ≤ p ∧ ∀ l, some l0 = some l → (if p < l0 then p else l0) ≤ l
    constructor
    · split <;> omega
    · intro l e
      cases e
      split <;> omega
theorem lw_grow {p : Nat} {s : Bool × Nat × Nat} {r : LRow} : s.2.2 ≤ (lwStep p s r).2.2 ∧ (lwStep p s r).2.2 ≤ max s.2.2 (lwStep p s r).2.1 := by
  have same : s.2.2 ≤ s.2.2 ∧ s.2.2 ≤ max s.2.2 s.2.1 := ⟨Nat.le_refl _, Nat.le_max_left ..⟩
  cases r with
  | pick w =>
    by_cases e : w = some p
    · rw [show lwStep p s (.pick w) = (s.1, 0, s.2.2) from if_pos e]
      exact ⟨Nat.le_refl _, Nat.le_max_left ..⟩
    · by_cases e2 : s.1 = true ∧ w ≠ none
      · rw [show lwStep p s (.pick w) = (s.1, s.2.1 + 1, max s.2.2 (s.2.1 + 1)) from (if_neg e).trans (if_pos e2)]
        exact ⟨Nat.le_max_left .., Nat.le_refl _⟩
      · rw [show lwStep p s (.pick w) = s from (if_neg e).trans (if_neg e2)]
        exact same
  | lend k pr => exact same
  | enter k pr =>
    by_cases e : k = p
    · rw [show lwStep p s (.enter k pr) = (true, s.2) from if_pos e]
      exact same
    · rw [show lwStep p s (.enter k pr) = s from if_neg e]
      exact same
  | wake k =>
    by_cases e : k = p
    · rw [show lwStep p s (.wake k) = (true, s.2) from if_pos e]
      exact same
    · rw [show lwStep p s (.wake k) = s from if_neg e]
      exact same
  | leave k =>
    by_cases e : k = p
    · rw [show lwStep p s (.leave k) = (false, 0, s.2.2) from if_pos e]
      exact ⟨Nat.le_refl _, Nat.le_max_left ..⟩
    · rw [show lwStep p s (.leave k) = s from if_neg e]
      exact same
  | sleep k =>
    by_cases e : k = p
    · rw [show lwStep p s (.sleep k) = (false, 0, s.2.2) from if_pos e]
      exact ⟨Nat.le_refl _, Nat.le_max_left ..⟩
    · rw [show lwStep p s (.sleep k) = s from if_neg e]
      exact same
theorem mild_step {S : AgS} {M : Nat} {d : Deed} (hW : WaitOk S M) (hG : Good S) (hn : d ≠ .pick) (hok : ok1 (domS S) d) : ∃ v, stepS S d = upS S (pidOf d) v ∧ Mild S (pidOf d) v := by
  cases d with
  | pick => exact absurd rfl hn
  | enter k p r => exact ⟨_, rfl, fun m' e => by cases e; exact ⟨hok.1, hok.2.1, Nat.zero_le _, fun _ => .inl rfl⟩⟩
  | leave k => exact ⟨_, rfl, fun m' e => by cases e⟩
  | wake k =>
    refine ⟨_, rfl, fun m' e => ?_⟩
    obtain ⟨m, hm⟩ := Option.isSome_iff_exists.mp (show (S k).isSome = true from hok)
    have e : (S k).map wakeM = some m' := e
    rw [hm] at e
    cases e
    refine ⟨hW.lt k hok, (hW.prio k m hm).1, (hW.prio k m hm).2, fun _ => ?_⟩
    cases hr : m.ready with
    | true => exact .inr ⟨m, hm, hr, rfl, rfl⟩
    | false => exact .inl (hG k m hm hr)
  | sleep k =>
    refine ⟨_, rfl, fun m' e => ?_⟩
    obtain ⟨m, hm⟩ := Option.isSome_iff_exists.mp (show (S k).isSome = true from hok)
    have e : (S k).map sleepM = some m' := e
    rw [hm] at e
    cases e
    exact ⟨hW.lt k hok, (hW.prio k m hm).1, (hW.prio k m hm).2, fun h => by cases h⟩
  | lend k p =>
    refine ⟨_, rfl, fun m' e => ?_⟩
    obtain ⟨m, hm⟩ := Option.isSome_iff_exists.mp (show (S k).isSome = true from hok.2)
    have e : (S k).map (fun m => { m with lent := p }) = some m' := e
    rw [hm] at e
    cases e
    exact ⟨hW.lt k hok.2, (hW.prio k m hm).1, hok.1, fun h => .inr ⟨m, hm, h, rfl, rfl⟩⟩
theorem bounds {rs : List LRow} {S : AgS} (h : LogOf rs S) : (cAll rs).f = domS S ∧ WaitOk S (cAll rs).most ∧ 1 ≤ (cAll rs).most ∧ (∀ p m, S p = some m → ∃ l, (cAll rs).least p = some l ∧ l ≤ m.base) ∧ (∀ p l, (cAll rs).least p = some l → l ≤ 7) ∧
    ∀ p, ((cAll rs).least p = none → (lwAll p rs).2.2 = 0) ∧ (∀ l, (cAll rs).least p = some l → (lwAll p rs).2.2 + l ≤ 6 + (cAll rs).most) ∧ ((cAll rs).most = 1 → (lwAll p rs).2.2 = 0) := by
  induction h with
  | nil => exact ⟨rfl, WaitOk.nil.mono (Nat.zero_le _), Nat.le_refl _, fun p m e => (by cases e), fun p l e => (by cases e), fun p => ⟨fun _ => rfl, fun l e => (by cases e), fun _ => rfl⟩⟩
  | @snoc rs S S' d w hL hok haw ho ih =>
    obtain ⟨hf, hW, h1, hlo, h7, hb⟩ := ih
    have s1 : cAll (rs ++ [rowOf d w]) = cStep (cAll rs) (rowOf d w) := List.foldl_append ..
    have hdom := ho.dom hok
    have hG := hL.good
    -- the parts that no deed but a pick, an entering and a leaving changes
    have key : (cAll (rs ++ [rowOf d w])).f = domS S' ∧ WaitOk S' (cAll (rs ++ [rowOf d w])).most ∧ (cAll rs).most ≤ (cAll (rs ++ [rowOf d w])).most ∧ (∀ p m, S' p = some m → ∃ l, (cAll (rs ++ [rowOf d w])).least p = some l ∧ l ≤ m.base) ∧ (∀ p l, (cAll (rs ++ [rowOf d w])).least p = some l → l ≤ 7) ∧ ∀ p l, (cAll rs).least p = some l → ∃ l', (cAll (rs ++ [rowOf d w])).least p = some l' ∧ l' ≤ l := by
      rw [s1]
      have hfd : (fun j => dom1 (domS S) d j) = domS S' := funext fun j => (hdom j).symm
      rcases ho with ⟨rfl, ⟨hnil, hw, rfl⟩ | ⟨q, hp, hw, rfl⟩⟩ | ⟨hn, hw, rfl⟩
      · exact ⟨hf, hW, Nat.le_refl _, hlo, h7, fun p l e => ⟨l, e, Nat.le_refl _⟩⟩
      · refine ⟨hf.trans hfd, hW.pick hp, Nat.le_refl _, fun p m' hm' => ?_, h7, fun p l e => ⟨l, e, Nat.le_refl _⟩⟩
        obtain ⟨m, hm⟩ := pick_back hm'
        rw [pick_at (hW.lt p (by rw [hm]; rfl)) hm] at hm'
        obtain ⟨l, h2, h3⟩ := hlo p m hm
        refine ⟨l, h2, ?_⟩
        cases hm'
        split
        · exact h3
        · split <;> exact h3
      · obtain ⟨v, hv, hmild⟩ := mild_step hW hG hn hok
        have WU := hW.up hmild
        rw [← hv, memN_count] at WU
        have WU : WaitOk (stepS S d) (max (cAll rs).most ((List.range 8).countP (domS (stepS S d)))) := WU
        have less : (∀ j, domS (stepS S d) j = true → domS S j = true) → WaitOk (stepS S d) (cAll rs).most := fun hsub => by
          refine WU.mono (Nat.max_le.mpr ⟨Nat.le_refl _, Nat.le_trans (List.countP_mono_left fun j _ => hsub j) ?_⟩)
          have := hW.mem
          rw [memN_count] at this
          exact this
        have base : (∀ p m', stepS S d p = some m' → ∃ m, S p = some m ∧ m'.base = m.base) → ∀ p m, stepS S d p = some m → ∃ l, (cAll rs).least p = some l ∧ l ≤ m.base := fun hb p m' hm' => by
          obtain ⟨m, hm, e⟩ := hb p m' hm'
          rw [e]
          exact hlo p m hm
        have one : ∀ (k : Nat) (g : Mb → Mb), (∀ m, (g m).base = m.base) → ∀ p m', upS S k ((S k).map g) p = some m' → ∃ m, S p = some m ∧ m'.base = m.base := fun k g hg p m' hm' => by
          unfold upS at hm'
          split at hm'
          · rename_i e
            subst e
            cases hm : S p with
            | none => rw [hm] at hm'; cases hm'
            | some m => rw [hm] at hm'; cases hm'; exact ⟨m, rfl, hg m⟩
          · exact ⟨m', hm', rfl⟩
        cases d with
        | pick => exact absurd rfl hn
        | enter k p0 r =>
          have ef : (fun j => decide (j = k) || (cAll rs).f j) = domS (stepS S (.enter k p0 r)) := by rw [hf]; exact hfd
          refine ⟨ef, ?_, Nat.le_max_left .., fun p m hm => ?_, fun p l hl => ?_, fun p l hl => ?_⟩
          · show WaitOk _ (max (cAll rs).most ((List.range 8).countP fun j => decide (j = k) || (cAll rs).f j))
            rw [ef]
            exact WU
          · show ∃ l, (if p = k then some (lessO ((cAll rs).least k) p0) else (cAll rs).least p) = some l ∧ l ≤ m.base
            by_cases e : p = k
            · subst e
              rw [show stepS S (.enter p p0 r) p = some (newM p0 r) from upS_same ..] at hm
              cases hm
              exact ⟨_, if_pos rfl, (lessO_le _ _).1⟩
            · rw [show stepS S (.enter k p0 r) p = S p from upS_ne e] at hm
              rw [if_neg e]
              exact hlo p m hm
          · have hl : (if p = k then some (lessO ((cAll rs).least k) p0) else (cAll rs).least p) = some l := hl
            by_cases e : p = k
            · rw [if_pos e] at hl
              cases hl
              exact Nat.le_trans (lessO_le _ _).1 hok.2.1
            · rw [if_neg e] at hl
              exact h7 p l hl
          · show ∃ l', (if p = k then some (lessO ((cAll rs).least k) p0) else (cAll rs).least p) = some l' ∧ l' ≤ l
            by_cases e : p = k
            · subst e
              exact ⟨_, if_pos rfl, (lessO_le _ _).2 l hl⟩
            · rw [if_neg e]
              exact ⟨l, hl, Nat.le_refl _⟩
        | leave k =>
          have ef : (fun j => !decide (j = k) && (cAll rs).f j) = domS (stepS S (.leave k)) := by rw [hf]; exact hfd
          refine ⟨ef, less fun j hj => ?_, Nat.le_refl _, base fun p m' hm' => ?_, h7, fun p l e => ⟨l, e, Nat.le_refl _⟩⟩
          · rw [hdom] at hj
            exact (Bool.and_eq_true_iff.mp hj).2
          · have hm' : upS S k none p = some m' := hm'
            unfold upS at hm'
            split at hm'
            · cases hm'
            · exact ⟨m', hm', rfl⟩
        | wake k => exact ⟨hf.trans hfd, less fun j hj => by rw [hdom] at hj; exact hj, Nat.le_refl _, base (one k wakeM fun _ => rfl), h7, fun p l e => ⟨l, e, Nat.le_refl _⟩⟩
        | sleep k => exact ⟨hf.trans hfd, less fun j hj => by rw [hdom] at hj; exact hj, Nat.le_refl _, base (one k sleepM fun _ => rfl), h7, fun p l e => ⟨l, e, Nat.le_refl _⟩⟩
        | lend k p0 => exact ⟨hf.trans hfd, less fun j hj => by rw [hdom] at hj; exact hj, Nat.le_refl _, base (one k (fun m => { m with lent := p0 }) fun _ => rfl), h7, fun p l e => ⟨l, e, Nat.le_refl _⟩⟩
    obtain ⟨kf, kW, km, klo, k7, kmono⟩ := key
    refine ⟨kf, kW, Nat.le_trans h1 km, klo, k7, fun p => ?_⟩
    have hg := lw_grow (p := p) (s := lwAll p rs) (r := rowOf d w)
    have s2 : lwAll p (rs ++ [rowOf d w]) = lwStep p (lwAll p rs) (rowOf d w) := List.foldl_append ..
    obtain ⟨b', _, w1, _⟩ := walks (LogOf.snoc hL hok haw ho) p
    have hage : (lwAll p (rs ++ [rowOf d w])).2.1 = ageR S' p := by rw [w1]
    rw [← s2, hage] at hg
    obtain ⟨b0, bl, b1⟩ := hb p
    have hcase : ageR S' p = 0 ∨ ∃ m, S' p = some m ∧ m.ready = true ∧ ageR S' p = m.age := by
      cases e : S' p with
      | none => exact .inl (age_none e)
      | some m =>
        cases hr : m.ready with
        | true => exact .inr ⟨m, rfl, hr, by rw [age_some e, if_pos hr]⟩
        | false => exact .inl (by rw [age_some e, if_neg (by rw [hr]; decide)])
    refine ⟨fun hn => ?_, fun l hl => ?_, fun hM => ?_⟩
    · have hn0 : (cAll rs).least p = none := by
        cases e : (cAll rs).least p with
        | none => rfl
        | some l => obtain ⟨l', e', _⟩ := kmono p l e; rw [hn] at e'; cases e'
      have z := b0 hn0
      rcases hcase with ha | ⟨m, hm, _, _⟩
      · rw [z, ha] at hg
        have := hg.2
        simpa using this
      · obtain ⟨l, hl, _⟩ := klo p m hm
        rw [hn] at hl
        cases hl
    · have hl7 := k7 p l hl
      have old : (lwAll p rs).2.2 + l ≤ 6 + (cAll (rs ++ [rowOf d w])).most := by
        cases e : (cAll rs).least p with
        | none => rw [b0 e]; omega
        | some l0 =>
          obtain ⟨l', e', hle⟩ := kmono p l0 e
          rw [hl] at e'
          cases e'
          have := bl l0 e
          omega
      have new : ageR S' p + l ≤ 6 + (cAll (rs ++ [rowOf d w])).most := by
        rcases hcase with ha | ⟨m, hm, hr, ha⟩
        · rw [ha]; omega
        · obtain ⟨l', e', hle⟩ := klo p m hm
          rw [hl] at e'
          cases e'
          have := kW.bound hm hr
          omega
      have := hg.2
      omega
    · have z := b1 (by omega)
      have new : ageR S' p = 0 := by
        rcases hcase with ha | ⟨m, hm, hr, ha⟩
        · exact ha
        · rw [ha]; exact kW.zero (by omega) hm hr
      have := hg.2
      rw [z, new] at this
      simpa using this
end
end K24
set_option Elab.async false
set_option linter.all false
set_option maxRecDepth 100000
set_option maxHeartbeats 4000000
namespace K24
open PySem PySem.Spec PyProof.Rows L2 Wk
local macro_rules | `(tactic| walk_at "u1") => `(tactic| fail "no more")
local macro_rules | `(tactic| walk_at "pos") => `(tactic| first | assumption | omega | decide | (simp only [Int.ofNat_eq_natCast] at *; omega))
local macro_rules | `(tactic| walk_at "sz") => `(tactic| first
  | (simp only [List.length_cons, List.length_nil]; decide)
  | exact Evl.sz_of (by omega)
  | exact Evl.sz_lt (by omega)
  | exact Evl.sz_of (by simp only [List.length_map, List.length_append, List.length_cons, List.length_nil, List.length_replicate]; omega)
  | exact Evl.sz_lt (by simp only [List.length_map, List.length_append, List.length_cons, List.length_nil, List.length_replicate]; omega))
local macro_rules | `(tactic| walk_at "cond") => `(tactic| first
  | exact Or.inr ⟨by decide, by decide⟩
  | (show (0 : Int) < _; first | decide | assumption | omega)
  | exact Or.inl ⟨by omega, by omega⟩
  | exact Or.inr ⟨by omega, by omega⟩
  | exact ⟨by decide, by decide, by decide⟩
  | exact log2_lt (by omega) (by omega)
  | exact ⟨by omega, by omega⟩)
local macro_rules | `(tactic| walk_at "ty") => `(tactic| first
  | exact ty_int | exact ty_bl | exact ty_str | exact ty_non
  | exact ty_L (by assumption) | exact ty_T (by assumption)
  | exact ty_L (SqL.of (by assumption)) | exact ty_T (SqT.of (by assumption)))
local macro_rules | `(tactic| walk_at "kit") => `(tactic| first
  | exact k_ii | exact k_ib | exact k_is | exact k_il | exact k_it
  | exact k_bb | exact k_bi | exact k_bs | exact k_bl | exact k_bt
  | exact k_ss | exact k_sb | exact k_si | exact k_sl | exact k_st
  | exact k_ll | exact k_lb | exact k_li | exact k_ls | exact k_lt
  | exact k_tt | exact k_tb | exact k_ti | exact k_ts | exact k_tl
  | exact k_nn | exact k_ni | exact k_ns | exact k_nl | exact k_nt)
local macro_rules | `(tactic| walk_at "s1") => `(tactic| first
  | with_reducible refine w_seq ?_
  | with_reducible refine w_set ?_
  | with_reducible refine w_op ?_
  | ((with_reducible refine' w_var ?h1 ?_); (case h1 => rfl))
  | with_reducible refine w_c ?_
  | with_reducible refine w_cb ?_
  | with_reducible refine w_cons ?_
  | with_reducible refine w_nil ?_
  | with_reducible refine w_I0 ?_
  | ((with_reducible refine' w_I ?c1 ?_); case c1 => walk_at "cond")
  | with_reducible refine w_ret ?_
  | with_reducible refine w_next ?_
  | with_reducible refine w_ifS ?_
  | with_reducible refine w_test ?_
  | with_reducible refine w_tB ?_
  | with_reducible refine w_k ?_
  | with_reducible refine w_eqI ?_
  | with_reducible refine w_neI ?_
  | with_reducible refine w_eqS ?_
  | with_reducible refine w_neS ?_
  | with_reducible refine w_and ?_
  | with_reducible refine w_or ?_
  | with_reducible refine w_not ?_
  | with_reducible refine w_andV ?_
  | with_reducible refine w_orV ?_
  | with_reducible refine w_notV ?_
  | with_reducible refine w_ifE ?_
  | with_reducible refine w_true ?_
  | with_reducible refine w_false ?_
  | with_reducible refine w_ntrue ?_
  | with_reducible refine w_nfalse ?_
  | with_reducible refine w_call ?_
  | with_reducible refine c_int ?_
  | with_reducible refine c_abs ?_
  | with_reducible refine c_max ?_
  | with_reducible refine c_min ?_
  | with_reducible refine w_drop ?_
  | with_reducible refine w_sfld ?_
  | with_reducible refine w_meth ?_
  | with_reducible refine w_make ?_
  | with_reducible refine w_prop ?_
  | with_reducible refine w_callK ?_
  | with_reducible refine w_callN ?_
  | with_reducible refine w_star ?_
  | with_reducible refine w_gcons ?_
  | with_reducible refine w_gname ?_
  | with_reducible refine w_gnil ?_
  | with_reducible refine w_retN ?_
  | with_reducible refine w_tup ?_
  | with_reducible refine w_lst ?_
  | with_reducible refine w_fld ?_
  | with_reducible refine w_bm ?_
  | with_reducible refine w_bm0 ?_
  | with_reducible refine w_forL ?_
  | with_reducible refine w_forT ?_
  | with_reducible refine w_forS ?_
  | with_reducible refine w_forR ?_
  | with_reducible refine w_lcR ?_
  | with_reducible refine w_lcL ?_
  | with_reducible refine w_lcT ?_
  | with_reducible refine w_isN ?_
  | with_reducible refine w_notN ?_
  | with_reducible refine w_asg ?_
  | with_reducible refine w_gsub ?_
  | ((with_reducible refine' w_aug ?h1 ?_); (case h1 => rfl))
  | with_reducible refine w_augS ?_
  | with_reducible refine w_ipI ?_
  | with_reducible refine w_un ?_
  | with_reducible refine w_U ?_
  | ((with_reducible refine' w_iteF ?f1 ?_); case f1 => (first | (intro h; cases h; done) | decide))
  | ((with_reducible refine' w_iteT ?f1 ?_); case f1 => rfl)
  | ((with_reducible refine' w_iteNF ?f1 ?_); case f1 => rfl)
  | ((with_reducible refine' w_iteNT ?f1 ?_); case f1 => (first | (intro h; cases h; done) | decide))
  | ((with_reducible refine' c_isi ?t1 ?k1 ?_); (case t1 => walk_at "ty"); (case k1 => walk_at "kit"))
  | ((with_reducible refine' w_eq ?e1 ?_); case e1 => rfl)
  | ((with_reducible refine' w_ne ?e1 ?_); case e1 => rfl)
  | walk_at "u1")
local macro_rules | `(tactic| walk_at "s") => `(tactic| repeat walk_at "s1")
local macro_rules | `(tactic| walk_at "mem") => `(tactic| first | with_reducible exact List.mem_cons_self .. | ((with_reducible refine' List.mem_cons_of_mem _ ?q); (case q => walk_at "mem")) | assumption | ((with_reducible refine' List.mem_append_right _ ?q); (case q => walk_at "mem")) | (exact List.mem_append_left _ (by assumption)))
local macro_rules | `(tactic| walk_at "pk") => `(tactic| first | with_reducible exact Pk.here | ((with_reducible refine' Pk.there ?q); (case q => walk_at "pk")) | ((with_reducible refine' Pk.app ?q); (case q => walk_at "pk")))
local macro_rules | `(tactic| walk_at "pkb") => `(tactic| first | with_reducible exact PkB.here | ((with_reducible refine' PkB.there ?q); (case q => walk_at "pkb")) | ((with_reducible refine' PkB.app ?q); (case q => walk_at "pkb")))
local macro_rules | `(tactic| walk_at "spl") => `(tactic| first | with_reducible exact Spl.nil | ((with_reducible refine' Spl.cons ?h ?t); (case h => walk_at "pk"); (case t => walk_at "spl")) | ((with_reducible refine' Spl.blk ?h ?t); (case h => walk_at "pkb"); (case t => walk_at "spl")))
local macro_rules | `(tactic| walk_at "sbx") => `(tactic| first | with_reducible exact Sb.refl | with_reducible exact Sb.nil | with_reducible exact Sb.left | ((with_reducible refine' Sb.cons ?h ?t); (case h => walk_at "pk"); (case t => walk_at "sbx")) | ((with_reducible refine' Sb.blk ?h ?t); (case h => walk_at "pkb"); (case t => walk_at "sbx")) | ((with_reducible refine' Sb.drop ?q); (case q => walk_at "sbx")) | ((with_reducible refine' Sb.right ?q); (case q => walk_at "sbx")))
local macro_rules | `(tactic| walk_at "hd") => `(tactic| first | assumption | exact Hd.sb (by assumption) (by walk_at "sbx"))
local macro_rules | `(tactic| walk_at "sq") => `(tactic| first
  | assumption
  | exact Hd.sqL (by assumption) (by walk_at "mem")
  | exact Hd.sqT (by assumption) (by walk_at "mem")
  | exact Hd.sqF (by assumption) (by walk_at "mem")
  | (refine .inl ?_; walk_at "sq")
  | (refine .inr ?_; walk_at "sq"))
local macro_rules | `(tactic| walk_at "at") => `(tactic| first | rfl | assumption | exact atI_nat (by assumption))
local macro_rules | `(tactic| walk_at "dn1") => `(tactic| first
  | exact Dn.int | exact Dn.str | exact Dn.non | exact Dn.bl | assumption
  | ((refine' Dn.tp ?a1 ?m1 ?l1 ?p1); (case a1 => assumption); (case m1 => walk_at "mem"); (case l1 => (simp only [List.length_cons, List.length_nil]; omega)); (case p1 => walk_at "dns"))
  | ((refine' Dn.lt ?a1 ?m1 ?l1 ?p1); (case a1 => assumption); (case m1 => walk_at "mem"); (case l1 => (simp only [List.length_cons, List.length_nil]; omega)); (case p1 => walk_at "dns")))
local macro_rules | `(tactic| walk_at "dns") => `(tactic| first | exact Paired.nil | exact Dn.ints | ((refine' Paired.cons ?a1 ?b1); (case a1 => walk_at "dn1"); (case b1 => walk_at "dns")))
local macro_rules | `(tactic| walk_at "g1") => `(tactic| first
  | ((with_reducible refine' g_ixI ?h1 ?h2 ?h3 ?_); (case h1 => assumption); (case h2 => walk_at "mem"); (case h3 => omega); intro z hz)
  | ((with_reducible refine' g_ixIT ?h1 ?h2 ?h3 ?_); (case h1 => assumption); (case h2 => walk_at "mem"); (case h3 => omega); intro z hz)
  | ((with_reducible refine' g_setI ?h1 ?h2 ?h3 ?_); (case h1 => assumption); (case h2 => walk_at "pk"); (case h3 => omega); intro H2 hh2)
  | ((with_reducible refine' w_ixL ?h1 ?h2 ?_); (case h1 => walk_at "sq"); (case h2 => walk_at "at"))
  | ((with_reducible refine' w_ixT ?h1 ?h2 ?_); (case h1 => walk_at "sq"); (case h2 => walk_at "at"))
  | ((with_reducible refine' w_ixAny ?h1 ?h2 ?_); (case h1 => walk_at "sq"); (case h2 => walk_at "at"))
  | ((with_reducible refine' c_lenA ?h1 ?_); (case h1 => walk_at "sq"))
  | ((with_reducible refine' c_isi ?t1 ?k1 ?_); (case t1 => first | exact ty_T (by walk_at "sq") | exact ty_L (by walk_at "sq")); (case k1 => walk_at "kit"))
  | ((with_reducible refine' g_lst ?h1 ?h2 ?_); (case h1 => assumption); (case h2 => walk_at "sz"); intro p H2 hh2)
  | ((with_reducible refine' g_tup ?h1 ?h2 ?_); (case h1 => assumption); (case h2 => walk_at "sz"); intro p H2 hh2)
  | ((with_reducible refine' g_dict ?h1 ?_); (case h1 => assumption); intro p H2 hh2)
  | ((with_reducible refine' g_listL ?h1 ?h2 ?_); (case h1 => assumption); (case h2 => walk_at "sq"); intro p H2 hh2)
  | ((with_reducible refine' g_listT ?h1 ?h2 ?_); (case h1 => assumption); (case h2 => walk_at "sq"); intro p H2 hh2)
  | ((with_reducible refine' g_tupL ?h1 ?h2 ?_); (case h1 => assumption); (case h2 => walk_at "sq"); intro p H2 hh2)
  | ((with_reducible refine' g_set ?h1 ?h2 ?h3 ?_); (case h1 => assumption); (case h2 => walk_at "pk"); (case h3 => first | rfl | assumption | exact Evl.ixN_nat (by first | omega | (simp only [List.length_cons, List.length_nil]; omega))); intro H2 hh2)
  | ((with_reducible refine' g_kbm ?h1 ?h2 ?_); (case h1 => assumption); (case h2 => walk_at "mem"))
  | ((with_reducible refine' g_kbm0 ?h1 ?h2 ?_); (case h1 => assumption); (case h2 => walk_at "mem"))
  | ((with_reducible refine' g_app ?h1 ?h2 ?h3 ?_); (case h1 => assumption); (case h2 => walk_at "pk"); (case h3 => walk_at "sz"); intro H2 hh2)
  | ((with_reducible refine' g_kapp ?h1 ?h2 ?h3 ?_); (case h1 => assumption); (case h2 => walk_at "pk"); (case h3 => walk_at "sz"); intro H2 hh2)
  | ((with_reducible refine' g_fld ?h1 ?h2 ?h3 ?h4 ?h5 ?_); (case h1 => assumption); (case h2 => walk_at "mem"); (case h3 => assumption); (case h4 => assumption); (case h5 => rfl))
  | ((with_reducible refine' g_sfld ?h1 ?h2 ?h3 ?h4 ?h5 ?_); (case h1 => assumption); (case h2 => walk_at "pk"); (case h3 => assumption); (case h4 => assumption); (case h5 => decide); intro H2 hh2)
  | ((with_reducible refine' g_meth ?h1 ?h2 ?h3 ?_); (case h1 => assumption); (case h2 => walk_at "mem"); (case h3 => rfl))
  | ((with_reducible refine' g_prop ?h1 ?h2 ?_); (case h1 => assumption); (case h2 => walk_at "mem"))
  | ((with_reducible refine' g_make ?h1 ?_); (case h1 => assumption); intro x H2 hh2)
  | ((with_reducible refine' g_cat ?h1 ?h2 ?h3 ?h4 ?_); (case h1 => assumption); (case h2 => walk_at "mem"); (case h3 => walk_at "mem"); (case h4 => walk_at "sz"); intro p H2 hh2)
  | ((with_reducible refine' g_inT ?h1 ?h2 ?h3 ?h4 ?h5 ?_); (case h1 => assumption); (case h2 => walk_at "mem"); (case h3 => rfl); (case h4 => rfl); (case h5 => rfl)))
local macro_rules | `(tactic| walk_at "gs") => `(tactic| repeat first | walk_at "s1" | walk_at "g1")
local macro_rules | `(tactic| walk_at "ite") => `(tactic| first
  | ((with_reducible refine' w_iteT ?h1 ?_); (case h1 => omega))
  | ((with_reducible refine' w_iteF ?h1 ?_); (case h1 => omega))
  | (with_reducible refine w_ite ?_ ?_ <;> intro hq)
  | ((with_reducible refine' w_iteNT ?h1 ?_); (case h1 => omega))
  | ((with_reducible refine' w_iteNF ?h1 ?_); (case h1 => omega))
  | (with_reducible refine w_iteN ?_ ?_ <;> intro hq))
local macro_rules | `(tactic| walk_at "go") => `(tactic| repeat' first | walk_at "s1" | walk_at "g1" | walk_at "ite")
local macro_rules | `(tactic| walk_at "g1") => `(tactic| first
  | ((with_reducible refine' g_take1 ?h1 ?h2 ?h3 ?h4 ?_); (case h1 => assumption); (case h2 => walk_at "spl"); (case h3 => omega); (case h4 => omega); intro k H2 hk1 hh2)
  | ((with_reducible refine' g_take ?h1 ?h2 ?h4 ?_); (case h1 => assumption); (case h2 => walk_at "spl"); (case h4 => omega); intro k H2 hk1 hh2)
  | ((with_reducible refine' g_betweenN ?h1 ?h2 ?h5 ?h3 ?h4 ?_); (case h1 => assumption); (case h2 => walk_at "spl"); (case h5 => omega); (case h3 => omega); (case h4 => omega); intro k H2 hk1 hk2 hh2)
  | ((with_reducible refine' g_between ?h1 ?h2 ?h3 ?h4 ?_); (case h1 => assumption); (case h2 => walk_at "spl"); (case h3 => omega); (case h4 => omega); intro k H2 hk1 hk2 hh2)
  | ((with_reducible refine' g_size ?h1 ?h2 ?h3 ?h4 ?_); (case h1 => assumption); (case h2 => walk_at "spl"); (case h3 => omega); (case h4 => omega); intro k H2 hk1 hh2)
  | ((with_reducible refine' g_word ?h1 ?h2 ?_); (case h1 => assumption); (case h2 => walk_at "spl"); intro k H2 hk1 hh2))
local macro_rules | `(tactic| walk_at "g1") => `(tactic| first | with_reducible refine w_sl ?_ | with_reducible refine w_part ?_ | with_reducible refine w_noPart ?_ | with_reducible refine w_exI ?_)
local macro_rules | `(tactic| walk_at "g1") => `(tactic| first | with_reducible refine w_din ?_ | with_reducible refine w_dnotin ?_ | with_reducible refine w_dget ?_ | with_reducible refine w_dput ?_ | with_reducible refine w_ddel ?_ | with_reducible refine w_dpop ?_)
section
variable {P : Program} {w : World} {K : PySem.W.Frag} {mg : Str → Option Value} {base : Heap} {aREG aOPS : Addr}
def domL (f : Nat → Bool) (ds : List Deed) : Nat → Bool := ds.foldl dom1 f
def okL : (Nat → Bool) → List Deed → Prop
  | _, [] => True
  | f, d :: ds => ok1 f d ∧ okL (dom1 f d) ds
theorem domL_snoc (f : Nat → Bool) (ds : List Deed) (d : Deed) : domL f (ds ++ [d]) = dom1 (domL f ds) d := List.foldl_append ..
theorem okL_snoc {d : Deed} : ∀ (ds : List Deed) (f : Nat → Bool), okL f ds → ok1 (domL f ds) d → okL f (ds ++ [d])
  | [], _, _, h2 => ⟨h2, trivial⟩
  | e :: ds, f, h, h2 => ⟨h.1, okL_snoc ds (dom1 f e) h.2 h2⟩
theorem okL_at : ∀ (ds : List Deed) (f : Nat → Bool) (i : Nat) (d : Deed), okL f ds → ds[i]? = some d → ok1 (domL f (ds.take i)) d
  | _ :: _, _, 0, _, h, e => by cases e; exact h.1
  | e :: ds, f, i + 1, d, h, he => okL_at ds (dom1 f e) i d h.2 he
abbrev noM : Nat → Bool := fun _ => false
abbrev refsD (l : List (Addr × Deed)) : List V := l.map fun x => V.ref x.1
abbrev cellsD (l : List (Addr × Deed)) : List Cell := l.map fun x => tupC x.1 (dV x.2)
abbrev deedsD (l : List (Addr × Deed)) : List Deed := l.map (·.2)
def sp_deeds (K : PySem.W.Frag) : Sp := fun vs H Q _ => ∃ (st c : Addr) (n : Nat) (R : List Cell), vs = [.ref st, .int n, .bl true] ∧ n ≤ 400 ∧ Hd H (stoC st c :: scrC c :: R) ∧ ∀ p (l : List (Addr × Deed)) H', l.length = n → okL noM (deedsD l) → (∀ d ∈ deedsD l, Awake d) → Hd H' (lstC p (refsD l) :: (cellsD l ++ (stoC st c :: scrC c :: R))) → Q (.ref p) H'
theorem g_rem {p : Addr} {k : Nat} {ms : List Nat} {H : Hp} {L M : List Cell} {Q : VK} (hh : Hd H L) (pk : Pk L (lstC p (natV ms)) M) (hk : k ∈ ms) (hn : ms.Nodup) (q : ∀ j H2, ms[j]? = some k → Hd H2 (lstC p (natV (ms.eraseIdx j)) :: M) → Q .non H2) : rRemI (.ref p) [.int (k : Int)] H Q := by
  obtain ⟨j, hj⟩ := List.getElem?_of_mem hk
  have hjl := (List.getElem?_eq_some_iff.mp hj).1
  refine ⟨p, ms.map fun k : Nat => (k : Int), (k : Int), j, rfl, rfl, by rw [natV_ints]; exact (hh.pk pk).lst (List.mem_cons_self ..), by rw [List.getElem?_map, hj]; rfl, fun m hm he => ?_, ?_⟩
  · rw [List.getElem?_map] at he
    cases hw : ms[m]? with
    | none => rw [hw] at he; cases he
    | some x =>
      rw [hw] at he
      have e1 : (x : Int) = (k : Int) := Option.some.inj he
      have e2 : x = k := by omega
      subst e2
      have := (List.getElem?_inj (List.getElem?_eq_some_iff.mp hw).1 hn).mp (hw.trans hj.symm)
      omega
  · rw [show ((ms.map fun k : Nat => (k : Int)).eraseIdx j).map V.int = natV (ms.eraseIdx j) by (simp [List.eraseIdx_eq_take_drop_succ, natV, List.map_take, List.map_drop]; rfl)]
    exact q j _ hj (hh.chgL pk Chg.of)
theorem mem_erased {ms : List Nat} {j k x : Nat} (hn : ms.Nodup) (hj : ms[j]? = some k) : x ∈ ms.eraseIdx j ↔ x ≠ k ∧ x ∈ ms := by
  rw [List.mem_eraseIdx_iff_getElem?]
  constructor
  · rintro ⟨i, hi, e⟩
    refine ⟨fun z => ?_, List.mem_of_getElem? e⟩
    subst z
    exact hi ((List.getElem?_inj (List.getElem?_eq_some_iff.mp e).1 hn).mp (e.trans hj.symm))
  · rintro ⟨h1, h2⟩
    obtain ⟨i, hi⟩ := List.getElem?_of_mem h2
    refine ⟨i, fun z => ?_, hi⟩
    subst z
    rw [hi] at hj
    exact h1 (Option.some.inj hj)
def DInv (st c pp pm pc : Addr) (n : Nat) (ps : List Nat) (R : List Cell) (i : Nat) (σ : L2.St) (H : Hp) : Prop := ∃ (ms : List Nat) (l : List (Addr × Deed)) (v6 v7 v8 : Option V), σ = [some (.ref st), some (.int n), some (.bl true), some (.ref pp), some (.ref pm), some (.ref pc), v6, v7, v8] ∧
  ms.Nodup ∧ (∀ j, domL noM (deedsD l) j = decide (j ∈ ms)) ∧ okL noM (deedsD l) ∧ (∀ d ∈ deedsD l, Awake d) ∧ l.length = i ∧ ms.length ≤ i ∧ Hd H (lstC pc (refsD l) :: lstC pm (natV ms) :: (cellsD l ++ (lstC pp (natV ps) :: stoC st c :: scrC c :: R)))
theorem DInv.snoc {st c pp pm pc t : Addr} {n i : Nat} {ps ms' : List Nat} {R : List Cell} {H : Hp} {l : List (Addr × Deed)} {v6 v7 v8 : Option V} {dd : Deed} (hok : okL noM (deedsD l)) (hA : ∀ d ∈ deedsD l, Awake d) (hd : Awake dd) (hl : l.length = i) (h1 : ok1 (domL noM (deedsD l)) dd) (h2 : ∀ j, dom1 (domL noM (deedsD l)) dd j = decide (j ∈ ms')) (hn : ms'.Nodup) (hm : ms'.length ≤ i + 1)
    (h : Hd H (lstC pc (refsD l ++ [.ref t]) :: tupC t (dV dd) :: lstC pm (natV ms') :: (cellsD l ++ (lstC pp (natV ps) :: stoC st c :: scrC c :: R)))) : DInv st c pp pm pc n ps R (i + 1) [some (.ref st), some (.int n), some (.bl true), some (.ref pp), some (.ref pm), some (.ref pc), v6, v7, v8] H := by
  refine ⟨ms', l ++ [(t, dd)], v6, v7, v8, rfl, hn, fun j => ?_, ?_, fun x hx => by rw [show deedsD (l ++ [(t, dd)]) = deedsD l ++ [dd] from List.map_append] at hx; exact (List.mem_append.mp hx).elim (hA x) fun e => by rw [List.mem_singleton.mp e]; exact hd, by rw [List.length_append, hl]; rfl, hm, ?_⟩
  · rw [show deedsD (l ++ [(t, dd)]) = deedsD l ++ [dd] from List.map_append, domL_snoc]
    exact h2 j
  · rw [show deedsD (l ++ [(t, dd)]) = deedsD l ++ [dd] from List.map_append]
    exact okL_snoc _ _ hok h1
  · rw [show refsD (l ++ [(t, dd)]) = refsD l ++ [.ref t] from List.map_append, show cellsD (l ++ [(t, dd)]) = cellsD l ++ [tupC t (dV dd)] from List.map_append]
    have p : (lstC pc (refsD l ++ [V.ref t]) :: tupC t (dV dd) :: lstC pm (natV ms') :: (cellsD l ++ (lstC pp (natV ps) :: stoC st c :: scrC c :: R))).Perm (lstC pc (refsD l ++ [V.ref t]) :: lstC pm (natV ms') :: ((cellsD l ++ [tupC t (dV dd)]) ++ (lstC pp (natV ps) :: stoC st c :: scrC c :: R))) := by
      refine List.Perm.cons _ ((List.Perm.swap ..).trans (List.Perm.cons _ ?_))
      rw [List.append_assoc]
      exact List.perm_middle.symm
    exact h.perm p
theorem c_deeds (T : Txt K mg aREG aOPS) (d : DefAt K mg "_law_ages_deeds" s__law_ages_deeds) (c__law_take : C8.Cal P w K mg base 2 "_law_take" sp_take []) (c__law_pick : C8.Cal P w K mg base 3 "_law_pick" (sp_pick K) []) (c__law_between : C8.Cal P w K mg base 3 "_law_between" sp_between []) (c__law_distinct : C8.Cal P w K mg base 3 "_law_distinct" (sp_distinct K) []) : C8.Cal P w K mg base 4 "_law_ages_deeds" (sp_deeds K) [] := by
  refine mk d sc__law_ages_deeds (fun _ _ _ _ _ _ us hl => match us, hl with | [_, _, _], _ => rfl) (fun vs H Q E h => ?_) (fun fa cdv A outer s H vs Q E hr h => ?_)
  · obtain ⟨st, c, n, R, rfl, _⟩ := h
    rfl
  · obtain ⟨st, c, n, R, rfl, hn, hh, q⟩ := h
    refine ⟨_, (pss_cons (ps_set (i := 3) sc__law_ages_deeds.nd rfl (Or.inl rfl) (C8.pe_c c__law_distinct hr (by first | decide | omega) rfl (pa_cons (pv 0) (pa_cons pe_int (pa_cons (pe_op op_add pe_int (C8.pe_c c__law_take hr (by first | decide | omega) rfl (pa_cons (pv 0) (pa_cons pe_int pa_nil)))) pa_nil)))))
  (pss_cons (ps_set (i := 4) sc__law_ages_deeds.nd rfl (Or.inl rfl) (pe_lst pa_nil))
  (pss_cons (ps_set (i := 5) sc__law_ages_deeds.nd rfl (Or.inl rfl) (pe_lst pa_nil))
  (pss_cons (ps_for PassesOwn.never rfl (pi_range1 rfl T.b_range (pa_cons (pv 1) pa_nil)) (pg_name (i := 6) sc__law_ages_deeds.nd rfl (Or.inl rfl))
    (pss_cons (ps_set (i := 7) sc__law_ages_deeds.nd rfl (Or.inl rfl) (C8.pe_c c__law_take hr (by first | decide | omega) rfl (pa_cons (pv 0) (pa_cons pe_int pa_nil))))
      (pss_cons (ps_set (i := 8) sc__law_ages_deeds.nd rfl (Or.inl rfl) (C8.pe_c c__law_pick hr (by first | decide | omega) rfl (pa_cons (pv 0) (pa_cons (pv 3) pa_nil))))
      (pss_one (ps_if (PW.pt (pw_and (pt_cmpR op_notIn_seq (pv 8) (pv 4) (by rfl)) (pw_and1 (pt_cmpR op_lt (pv 7) pe_int (nomark _)))))
        (pss_cons (ps_expr (pe_bm PySem.F.plainAttrs_list PySem.F.slot_list_append PySem.F.type_list_append mt_append (pv 4) (pa_cons (pv 8) pa_nil)))
          (pss_one (ps_expr (pe_bm PySem.F.plainAttrs_list PySem.F.slot_list_append PySem.F.type_list_append mt_append (pv 5) (pa_cons (pe_tup (pa_cons pe_str (pa_cons (pv 8) (pa_cons (C8.pe_c c__law_between hr (by first | decide | omega) rfl (pa_cons (pv 0) (pa_cons pe_int (pa_cons pe_int pa_nil)))) (pa_cons (pe_or (pv 2) (pe_one (pe_cmpR op_gt (C8.pe_c c__law_take hr (by first | decide | omega) rfl (pa_cons (pv 0) (pa_cons pe_int pa_nil))) pe_int (nomark _)))) pa_nil))))) pa_nil)))))
        (pss_one (ps_if (PW.pt (pw_or (pt_cmpR op_lt (pv 7) pe_int (nomark _)) (pw_or1 (pt_cmpR op_notIn_seq (pv 8) (pv 4) (by rfl)))))
            (pss_one (ps_expr (pe_bm PySem.F.plainAttrs_list PySem.F.slot_list_append PySem.F.type_list_append mt_append (pv 5) (pa_cons (pe_tup (pa_cons pe_str pa_nil)) pa_nil))))
            (pss_one (ps_if (pt_cmpR op_eq (pv 7) pe_int (nomark _))
                (pss_cons (ps_expr (pe_bm PySem.F.plainAttrs_list PySem.F.slot_list_remove PySem.F.type_list_remove mt_remove (pv 4) (pa_cons (pv 8) pa_nil)))
                  (pss_one (ps_expr (pe_bm PySem.F.plainAttrs_list PySem.F.slot_list_append PySem.F.type_list_append mt_append (pv 5) (pa_cons (pe_tup (pa_cons pe_str (pa_cons (pv 8) pa_nil))) pa_nil)))))
                (pss_one (ps_if (pt_cmpR op_eq (pv 7) pe_int (nomark _))
                    (pss_one (ps_expr (pe_bm PySem.F.plainAttrs_list PySem.F.slot_list_append PySem.F.type_list_append mt_append (pv 5) (pa_cons (pe_tup (pa_cons pe_str (pa_cons (pv 8) pa_nil))) pa_nil))))
                    (pss_one (ps_if (pt_cmpR op_lt (pv 7) pe_int (nomark _))
                        (pss_one (ps_expr (pe_bm PySem.F.plainAttrs_list PySem.F.slot_list_append PySem.F.type_list_append mt_append (pv 5) (pa_cons (pe_tup (pa_cons pe_str (pa_cons (pv 8) pa_nil))) pa_nil))))
                        (pss_one (ps_expr (pe_bm PySem.F.plainAttrs_list PySem.F.slot_list_append PySem.F.type_list_append mt_append (pv 5) (pa_cons (pe_tup (pa_cons pe_str (pa_cons (pv 8) (pa_cons (C8.pe_c c__law_between hr (by first | decide | omega) rfl (pa_cons (pv 0) (pa_cons pe_int (pa_cons pe_int pa_nil)))) pa_nil)))) pa_nil)))))))))))))))))
  (pss_one (ps_ret (pv 5))))))), ?_⟩
    walk_at "gs"
    rename_i k0 H1 hk0 h1
    refine ⟨st, c, 1 + k0, R, rfl, by omega, by omega, h1, fun pp ps H2 hp0 hp8 hp h2 => ?_⟩
    clear hh h1
    walk_at "gs"
    rename_i pm H3 h3 pc H4 h4
    clear h2 h3
    refine l_range (m := n) rfl (by omega) (DInv st c pp pm pc n ps R) ⟨[], [], _, _, _, rfl, List.nodup_nil, fun j => rfl, trivial, fun d hd => (by cases hd), rfl, Nat.le_refl _, h4⟩ ?_ ?_
    · rintro i σ H5 hi ⟨ms, l, v6, v7, v8, rfl, hnd, hdm, hok, hA, hl, hml, h5⟩
      have hlr : (refsD l).length = l.length := List.length_map ..
      have hnl := natV_len ms
      have hnp := natV_len ps
      clear h4
      walk_at "gs"
      rename_i way H6 hw h6
      refine g_pick h6 (by walk_at "spl") (by walk_at "mem") (by omega) (by omega) fun v H7 hv h7 => ?_
      obtain ⟨k, hk, rfl⟩ := List.mem_map.mp hv
      have hk8 := hp k hk
      clear h5 h6
      walk_at "gs"
      refine w_nin (h7.sqL (by walk_at "mem")) rfl (natV_flat ms) inV_nat ?_
      walk_at "gs"
      have nin : ∀ {H : Hp} {Q : VK}, SqL K H pm (natV ms) → Q (.bl (!decide (k ∈ ms))) H → rIn K true (.int k) (.ref pm) H Q := fun hs q => w_nin hs rfl (natV_flat ms) inV_nat q
      refine w_iteN (fun hin => ?_) (fun hin => ?_)
      · have hfk : domL noM (deedsD l) k = false := by rw [hdm, decide_eq_false hin]
        walk_at "gs"
        refine w_ite (fun hlt => ?_) (fun hlt => ?_)
        · walk_at "gs"
          rename_i H8 h8 pr H9 hpr0 hpr h9 t H11 h11 H12 h12
          refine DInv.snoc (t := t) (dd := .enter k pr true) (ms' := ms ++ [k]) hok hA (by first | exact rfl | exact trivial) hl ⟨hk8, by omega, hfk⟩ (fun j => ?_) (List.nodup_append.mpr ⟨hnd, List.nodup_cons.mpr ⟨List.not_mem_nil, List.nodup_nil⟩, fun a ha b hb e => by rw [List.mem_singleton.mp hb] at e; exact hin (e ▸ ha)⟩) (by rw [List.length_append]; exact Nat.succ_le_succ hml) ?_
          · show (decide (j = k) || domL noM (deedsD l) j) = decide (j ∈ ms ++ [k])
            rw [hdm, Bool.eq_iff_iff, Bool.or_eq_true, decide_eq_true_iff, decide_eq_true_iff, decide_eq_true_iff, List.mem_append, List.mem_singleton]
            exact Or.comm
          · rw [show natV (ms ++ [k]) = natV ms ++ [V.int (k : Int)] from List.map_append]
            exact Hd.sb (A := lstC pc (refsD l ++ [.ref t]) :: tupC t [V.str (Str.ofString "enter"), V.int (k : Int), V.int (pr : Int), V.bl true] :: lstC pm (natV ms ++ [V.int (k : Int)]) :: (cellsD l ++ (lstC pp (natV ps) :: stoC st c :: scrC c :: R))) h12 (by walk_at "sbx")
        · walk_at "gs"
          rw [decide_eq_false (show ¬ (way : Int) < 6 by omega)]
          walk_at "gs"
          refine nin (h7.sqL (by walk_at "mem")) ?_
          rw [decide_eq_false hin]
          walk_at "gs"
          rename_i t H8 h8 H9 h9
          exact DInv.snoc (dd := .pick) hok hA (by first | exact rfl | exact trivial) hl trivial hdm hnd (by omega) (Hd.sb (A := lstC pc (refsD l ++ [.ref t]) :: tupC t [V.str (Str.ofString "pick")] :: lstC pm (natV ms) :: (cellsD l ++ (lstC pp (natV ps) :: stoC st c :: scrC c :: R))) h9 (by walk_at "sbx"))
      · have hfk : domL noM (deedsD l) k = true := by rw [hdm, decide_eq_true hin]
        walk_at "gs"
        refine w_ite (fun hlt => ?_) (fun hlt => ?_)
        · walk_at "gs"
          rename_i t H8 h8 H9 h9
          exact DInv.snoc (dd := .pick) hok hA (by first | exact rfl | exact trivial) hl trivial hdm hnd (by omega) (Hd.sb (A := lstC pc (refsD l ++ [.ref t]) :: tupC t [V.str (Str.ofString "pick")] :: lstC pm (natV ms) :: (cellsD l ++ (lstC pp (natV ps) :: stoC st c :: scrC c :: R))) h9 (by walk_at "sbx"))
        · walk_at "gs"
          refine nin (h7.sqL (by walk_at "mem")) ?_
          rw [decide_eq_true hin]
          walk_at "gs"
          refine w_ite (fun h6 => ?_) (fun h6 => ?_)
          · walk_at "gs"
            refine g_rem h7 (by walk_at "pk") hin hnd fun j H8 hj h8 => ?_
            have hnl2 := natV_len (ms.eraseIdx j)
            walk_at "gs"
            rename_i t H9 h9 H10 h10
            refine DInv.snoc (dd := .leave k) (ms' := ms.eraseIdx j) hok hA (by first | exact rfl | exact trivial) hl hfk (fun x => ?_) (hnd.sublist (List.eraseIdx_sublist ..)) (Nat.le_succ_of_le (Nat.le_trans (List.eraseIdx_sublist ..).length_le hml)) (Hd.sb (A := lstC pc (refsD l ++ [.ref t]) :: tupC t [V.str (Str.ofString "leave"), V.int (k : Int)] :: lstC pm (natV (ms.eraseIdx j)) :: (cellsD l ++ (lstC pp (natV ps) :: stoC st c :: scrC c :: R))) h10 (by walk_at "sbx"))
            show (!decide (x = k) && domL noM (deedsD l) x) = decide (x ∈ ms.eraseIdx j)
            rw [hdm, Bool.eq_iff_iff, Bool.and_eq_true, decide_eq_true_iff, decide_eq_true_iff, mem_erased hnd hj, Bool.not_eq_true', decide_eq_false_iff_not]
          · walk_at "gs"
            refine w_ite (fun e7 => ?_) (fun e7 => ?_)
            · walk_at "gs"
              rename_i t H8 h8 H9 h9
              exact DInv.snoc (dd := .wake k) hok hA (by first | exact rfl | exact trivial) hl hfk hdm hnd (by omega) (Hd.sb (A := lstC pc (refsD l ++ [.ref t]) :: tupC t [V.str (Str.ofString "wake"), V.int (k : Int)] :: lstC pm (natV ms) :: (cellsD l ++ (lstC pp (natV ps) :: stoC st c :: scrC c :: R))) h9 (by walk_at "sbx"))
            · walk_at "gs"
              refine w_ite (fun e8 => ?_) (fun e8 => ?_)
              · walk_at "gs"
                rename_i t H8 h8 H9 h9
                exact DInv.snoc (dd := .sleep k) hok hA (by first | exact rfl | exact trivial) hl hfk hdm hnd (by omega) (Hd.sb (A := lstC pc (refsD l ++ [.ref t]) :: tupC t [V.str (Str.ofString "sleep"), V.int (k : Int)] :: lstC pm (natV ms) :: (cellsD l ++ (lstC pp (natV ps) :: stoC st c :: scrC c :: R))) h9 (by walk_at "sbx"))
              · walk_at "gs"
                rename_i pr H8 hpr0 hpr h8 t H9 h9 H10 h10
                exact DInv.snoc (dd := .lend k pr) hok hA (by first | exact rfl | exact trivial) hl ⟨by omega, hfk⟩ hdm hnd (by omega) (Hd.sb (A := lstC pc (refsD l ++ [.ref t]) :: tupC t [V.str (Str.ofString "lend"), V.int (k : Int), V.int (pr : Int)] :: lstC pm (natV ms) :: (cellsD l ++ (lstC pp (natV ps) :: stoC st c :: scrC c :: R))) h10 (by walk_at "sbx"))
    · rintro σ H5 ⟨ms, l, v6, v7, v8, rfl, hnd, hdm, hok, hA, hl, hml, h5⟩
      walk_at "gs"
      exact q pc l H5 hl hok hA (Hd.sb h5 (by walk_at "sbx"))
end
end K24
set_option Elab.async false
set_option linter.all false
set_option maxRecDepth 100000
set_option maxHeartbeats 4000000
namespace K24
open PySem PySem.Spec PyProof.Rows L2 Wk
local macro_rules | `(tactic| walk_at "u1") => `(tactic| fail "no more")
local macro_rules | `(tactic| walk_at "pos") => `(tactic| first | assumption | omega | decide | (simp only [Int.ofNat_eq_natCast] at *; omega))
local macro_rules | `(tactic| walk_at "sz") => `(tactic| first
  | (simp only [List.length_cons, List.length_nil]; decide)
  | exact Evl.sz_of (by omega)
  | exact Evl.sz_lt (by omega)
  | exact Evl.sz_of (by simp only [List.length_map, List.length_append, List.length_cons, List.length_nil, List.length_replicate]; omega)
  | exact Evl.sz_lt (by simp only [List.length_map, List.length_append, List.length_cons, List.length_nil, List.length_replicate]; omega))
local macro_rules | `(tactic| walk_at "cond") => `(tactic| first
  | exact Or.inr ⟨by decide, by decide⟩
  | (show (0 : Int) < _; first | decide | assumption | omega)
  | exact Or.inl ⟨by omega, by omega⟩
  | exact Or.inr ⟨by omega, by omega⟩
  | exact ⟨by decide, by decide, by decide⟩
  | exact log2_lt (by omega) (by omega)
  | exact ⟨by omega, by omega⟩)
local macro_rules | `(tactic| walk_at "ty") => `(tactic| first
  | exact ty_int | exact ty_bl | exact ty_str | exact ty_non
  | exact ty_L (by assumption) | exact ty_T (by assumption)
  | exact ty_L (SqL.of (by assumption)) | exact ty_T (SqT.of (by assumption)))
local macro_rules | `(tactic| walk_at "kit") => `(tactic| first
  | exact k_ii | exact k_ib | exact k_is | exact k_il | exact k_it
  | exact k_bb | exact k_bi | exact k_bs | exact k_bl | exact k_bt
  | exact k_ss | exact k_sb | exact k_si | exact k_sl | exact k_st
  | exact k_ll | exact k_lb | exact k_li | exact k_ls | exact k_lt
  | exact k_tt | exact k_tb | exact k_ti | exact k_ts | exact k_tl
  | exact k_nn | exact k_ni | exact k_ns | exact k_nl | exact k_nt)
local macro_rules | `(tactic| walk_at "s1") => `(tactic| first
  | with_reducible refine w_seq ?_
  | with_reducible refine w_set ?_
  | with_reducible refine w_op ?_
  | ((with_reducible refine' w_var ?h1 ?_); (case h1 => rfl))
  | with_reducible refine w_c ?_
  | with_reducible refine w_cb ?_
  | with_reducible refine w_cons ?_
  | with_reducible refine w_nil ?_
  | with_reducible refine w_I0 ?_
  | ((with_reducible refine' w_I ?c1 ?_); case c1 => walk_at "cond")
  | with_reducible refine w_ret ?_
  | with_reducible refine w_next ?_
  | with_reducible refine w_ifS ?_
  | with_reducible refine w_test ?_
  | with_reducible refine w_tB ?_
  | with_reducible refine w_k ?_
  | with_reducible refine w_eqI ?_
  | with_reducible refine w_neI ?_
  | with_reducible refine w_eqS ?_
  | with_reducible refine w_neS ?_
  | with_reducible refine w_and ?_
  | with_reducible refine w_or ?_
  | with_reducible refine w_not ?_
  | with_reducible refine w_andV ?_
  | with_reducible refine w_orV ?_
  | with_reducible refine w_notV ?_
  | with_reducible refine w_ifE ?_
  | with_reducible refine w_true ?_
  | with_reducible refine w_false ?_
  | with_reducible refine w_ntrue ?_
  | with_reducible refine w_nfalse ?_
  | with_reducible refine w_call ?_
  | with_reducible refine c_int ?_
  | with_reducible refine c_abs ?_
  | with_reducible refine c_max ?_
  | with_reducible refine c_min ?_
  | with_reducible refine w_drop ?_
  | with_reducible refine w_sfld ?_
  | with_reducible refine w_meth ?_
  | with_reducible refine w_make ?_
  | with_reducible refine w_prop ?_
  | with_reducible refine w_callK ?_
  | with_reducible refine w_callN ?_
  | with_reducible refine w_star ?_
  | with_reducible refine w_gcons ?_
  | with_reducible refine w_gname ?_
  | with_reducible refine w_gnil ?_
  | with_reducible refine w_retN ?_
  | with_reducible refine w_tup ?_
  | with_reducible refine w_lst ?_
  | with_reducible refine w_fld ?_
  | with_reducible refine w_bm ?_
  | with_reducible refine w_bm0 ?_
  | with_reducible refine w_forL ?_
  | with_reducible refine w_forT ?_
  | with_reducible refine w_forS ?_
  | with_reducible refine w_forR ?_
  | with_reducible refine w_lcR ?_
  | with_reducible refine w_lcL ?_
  | with_reducible refine w_lcT ?_
  | with_reducible refine w_isN ?_
  | with_reducible refine w_notN ?_
  | with_reducible refine w_asg ?_
  | with_reducible refine w_gsub ?_
  | ((with_reducible refine' w_aug ?h1 ?_); (case h1 => rfl))
  | with_reducible refine w_augS ?_
  | with_reducible refine w_ipI ?_
  | with_reducible refine w_un ?_
  | with_reducible refine w_U ?_
  | ((with_reducible refine' w_iteF ?f1 ?_); case f1 => (first | (intro h; cases h; done) | decide))
  | ((with_reducible refine' w_iteT ?f1 ?_); case f1 => rfl)
  | ((with_reducible refine' w_iteNF ?f1 ?_); case f1 => rfl)
  | ((with_reducible refine' w_iteNT ?f1 ?_); case f1 => (first | (intro h; cases h; done) | decide))
  | ((with_reducible refine' c_isi ?t1 ?k1 ?_); (case t1 => walk_at "ty"); (case k1 => walk_at "kit"))
  | ((with_reducible refine' w_eq ?e1 ?_); case e1 => rfl)
  | ((with_reducible refine' w_ne ?e1 ?_); case e1 => rfl)
  | walk_at "u1")
local macro_rules | `(tactic| walk_at "s") => `(tactic| repeat walk_at "s1")
local macro_rules | `(tactic| walk_at "mem") => `(tactic| first | with_reducible exact List.mem_cons_self .. | ((with_reducible refine' List.mem_cons_of_mem _ ?q); (case q => walk_at "mem")) | assumption | ((with_reducible refine' List.mem_append_right _ ?q); (case q => walk_at "mem")) | (exact List.mem_append_left _ (by assumption)))
local macro_rules | `(tactic| walk_at "pk") => `(tactic| first | with_reducible exact Pk.here | ((with_reducible refine' Pk.there ?q); (case q => walk_at "pk")) | ((with_reducible refine' Pk.app ?q); (case q => walk_at "pk")))
local macro_rules | `(tactic| walk_at "pkb") => `(tactic| first | with_reducible exact PkB.here | ((with_reducible refine' PkB.there ?q); (case q => walk_at "pkb")) | ((with_reducible refine' PkB.app ?q); (case q => walk_at "pkb")))
local macro_rules | `(tactic| walk_at "spl") => `(tactic| first | with_reducible exact Spl.nil | ((with_reducible refine' Spl.cons ?h ?t); (case h => walk_at "pk"); (case t => walk_at "spl")) | ((with_reducible refine' Spl.blk ?h ?t); (case h => walk_at "pkb"); (case t => walk_at "spl")))
local macro_rules | `(tactic| walk_at "sbx") => `(tactic| first | with_reducible exact Sb.refl | with_reducible exact Sb.nil | with_reducible exact Sb.left | ((with_reducible refine' Sb.cons ?h ?t); (case h => walk_at "pk"); (case t => walk_at "sbx")) | ((with_reducible refine' Sb.blk ?h ?t); (case h => walk_at "pkb"); (case t => walk_at "sbx")) | ((with_reducible refine' Sb.drop ?q); (case q => walk_at "sbx")) | ((with_reducible refine' Sb.right ?q); (case q => walk_at "sbx")))
local macro_rules | `(tactic| walk_at "hd") => `(tactic| first | assumption | exact Hd.sb (by assumption) (by walk_at "sbx"))
local macro_rules | `(tactic| walk_at "sq") => `(tactic| first
  | assumption
  | exact Hd.sqL (by assumption) (by walk_at "mem")
  | exact Hd.sqT (by assumption) (by walk_at "mem")
  | exact Hd.sqF (by assumption) (by walk_at "mem")
  | (refine .inl ?_; walk_at "sq")
  | (refine .inr ?_; walk_at "sq"))
local macro_rules | `(tactic| walk_at "at") => `(tactic| first | rfl | assumption | exact atI_nat (by assumption))
local macro_rules | `(tactic| walk_at "dn1") => `(tactic| first
  | exact Dn.int | exact Dn.str | exact Dn.non | exact Dn.bl | assumption
  | ((refine' Dn.tp ?a1 ?m1 ?l1 ?p1); (case a1 => assumption); (case m1 => walk_at "mem"); (case l1 => (simp only [List.length_cons, List.length_nil]; omega)); (case p1 => walk_at "dns"))
  | ((refine' Dn.lt ?a1 ?m1 ?l1 ?p1); (case a1 => assumption); (case m1 => walk_at "mem"); (case l1 => (simp only [List.length_cons, List.length_nil]; omega)); (case p1 => walk_at "dns")))
local macro_rules | `(tactic| walk_at "dns") => `(tactic| first | exact Paired.nil | exact Dn.ints | ((refine' Paired.cons ?a1 ?b1); (case a1 => walk_at "dn1"); (case b1 => walk_at "dns")))
local macro_rules | `(tactic| walk_at "g1") => `(tactic| first
  | ((with_reducible refine' g_ixI ?h1 ?h2 ?h3 ?_); (case h1 => assumption); (case h2 => walk_at "mem"); (case h3 => omega); intro z hz)
  | ((with_reducible refine' g_ixIT ?h1 ?h2 ?h3 ?_); (case h1 => assumption); (case h2 => walk_at "mem"); (case h3 => omega); intro z hz)
  | ((with_reducible refine' g_setI ?h1 ?h2 ?h3 ?_); (case h1 => assumption); (case h2 => walk_at "pk"); (case h3 => omega); intro H2 hh2)
  | ((with_reducible refine' w_ixL ?h1 ?h2 ?_); (case h1 => walk_at "sq"); (case h2 => walk_at "at"))
  | ((with_reducible refine' w_ixT ?h1 ?h2 ?_); (case h1 => walk_at "sq"); (case h2 => walk_at "at"))
  | ((with_reducible refine' w_ixAny ?h1 ?h2 ?_); (case h1 => walk_at "sq"); (case h2 => walk_at "at"))
  | ((with_reducible refine' c_lenA ?h1 ?_); (case h1 => walk_at "sq"))
  | ((with_reducible refine' c_isi ?t1 ?k1 ?_); (case t1 => first | exact ty_T (by walk_at "sq") | exact ty_L (by walk_at "sq")); (case k1 => walk_at "kit"))
  | ((with_reducible refine' g_lst ?h1 ?h2 ?_); (case h1 => assumption); (case h2 => walk_at "sz"); intro p H2 hh2)
  | ((with_reducible refine' g_tup ?h1 ?h2 ?_); (case h1 => assumption); (case h2 => walk_at "sz"); intro p H2 hh2)
  | ((with_reducible refine' g_dict ?h1 ?_); (case h1 => assumption); intro p H2 hh2)
  | ((with_reducible refine' g_listL ?h1 ?h2 ?_); (case h1 => assumption); (case h2 => walk_at "sq"); intro p H2 hh2)
  | ((with_reducible refine' g_listT ?h1 ?h2 ?_); (case h1 => assumption); (case h2 => walk_at "sq"); intro p H2 hh2)
  | ((with_reducible refine' g_tupL ?h1 ?h2 ?_); (case h1 => assumption); (case h2 => walk_at "sq"); intro p H2 hh2)
  | ((with_reducible refine' g_set ?h1 ?h2 ?h3 ?_); (case h1 => assumption); (case h2 => walk_at "pk"); (case h3 => first | rfl | assumption | exact Evl.ixN_nat (by first | omega | (simp only [List.length_cons, List.length_nil]; omega))); intro H2 hh2)
  | ((with_reducible refine' g_kbm ?h1 ?h2 ?_); (case h1 => assumption); (case h2 => walk_at "mem"))
  | ((with_reducible refine' g_kbm0 ?h1 ?h2 ?_); (case h1 => assumption); (case h2 => walk_at "mem"))
  | ((with_reducible refine' g_app ?h1 ?h2 ?h3 ?_); (case h1 => assumption); (case h2 => walk_at "pk"); (case h3 => walk_at "sz"); intro H2 hh2)
  | ((with_reducible refine' g_kapp ?h1 ?h2 ?h3 ?_); (case h1 => assumption); (case h2 => walk_at "pk"); (case h3 => walk_at "sz"); intro H2 hh2)
  | ((with_reducible refine' g_fld ?h1 ?h2 ?h3 ?h4 ?h5 ?_); (case h1 => assumption); (case h2 => walk_at "mem"); (case h3 => assumption); (case h4 => assumption); (case h5 => rfl))
  | ((with_reducible refine' g_sfld ?h1 ?h2 ?h3 ?h4 ?h5 ?_); (case h1 => assumption); (case h2 => walk_at "pk"); (case h3 => assumption); (case h4 => assumption); (case h5 => decide); intro H2 hh2)
  | ((with_reducible refine' g_meth ?h1 ?h2 ?h3 ?_); (case h1 => assumption); (case h2 => walk_at "mem"); (case h3 => rfl))
  | ((with_reducible refine' g_prop ?h1 ?h2 ?_); (case h1 => assumption); (case h2 => walk_at "mem"))
  | ((with_reducible refine' g_make ?h1 ?_); (case h1 => assumption); intro x H2 hh2)
  | ((with_reducible refine' g_cat ?h1 ?h2 ?h3 ?h4 ?_); (case h1 => assumption); (case h2 => walk_at "mem"); (case h3 => walk_at "mem"); (case h4 => walk_at "sz"); intro p H2 hh2)
  | ((with_reducible refine' g_inT ?h1 ?h2 ?h3 ?h4 ?h5 ?_); (case h1 => assumption); (case h2 => walk_at "mem"); (case h3 => rfl); (case h4 => rfl); (case h5 => rfl)))
local macro_rules | `(tactic| walk_at "gs") => `(tactic| repeat first | walk_at "s1" | walk_at "g1")
local macro_rules | `(tactic| walk_at "ite") => `(tactic| first
  | ((with_reducible refine' w_iteT ?h1 ?_); (case h1 => omega))
  | ((with_reducible refine' w_iteF ?h1 ?_); (case h1 => omega))
  | (with_reducible refine w_ite ?_ ?_ <;> intro hq)
  | ((with_reducible refine' w_iteNT ?h1 ?_); (case h1 => omega))
  | ((with_reducible refine' w_iteNF ?h1 ?_); (case h1 => omega))
  | (with_reducible refine w_iteN ?_ ?_ <;> intro hq))
local macro_rules | `(tactic| walk_at "go") => `(tactic| repeat' first | walk_at "s1" | walk_at "g1" | walk_at "ite")
local macro_rules | `(tactic| walk_at "g1") => `(tactic| first
  | ((with_reducible refine' g_take1 ?h1 ?h2 ?h3 ?h4 ?_); (case h1 => assumption); (case h2 => walk_at "spl"); (case h3 => omega); (case h4 => omega); intro k H2 hk1 hh2)
  | ((with_reducible refine' g_take ?h1 ?h2 ?h4 ?_); (case h1 => assumption); (case h2 => walk_at "spl"); (case h4 => omega); intro k H2 hk1 hh2)
  | ((with_reducible refine' g_betweenN ?h1 ?h2 ?h5 ?h3 ?h4 ?_); (case h1 => assumption); (case h2 => walk_at "spl"); (case h5 => omega); (case h3 => omega); (case h4 => omega); intro k H2 hk1 hk2 hh2)
  | ((with_reducible refine' g_between ?h1 ?h2 ?h3 ?h4 ?_); (case h1 => assumption); (case h2 => walk_at "spl"); (case h3 => omega); (case h4 => omega); intro k H2 hk1 hk2 hh2)
  | ((with_reducible refine' g_size ?h1 ?h2 ?h3 ?h4 ?_); (case h1 => assumption); (case h2 => walk_at "spl"); (case h3 => omega); (case h4 => omega); intro k H2 hk1 hh2)
  | ((with_reducible refine' g_word ?h1 ?h2 ?_); (case h1 => assumption); (case h2 => walk_at "spl"); intro k H2 hk1 hh2))
local macro_rules | `(tactic| walk_at "g1") => `(tactic| first | with_reducible refine w_sl ?_ | with_reducible refine w_part ?_ | with_reducible refine w_noPart ?_ | with_reducible refine w_exI ?_)
local macro_rules | `(tactic| walk_at "g1") => `(tactic| first | with_reducible refine w_din ?_ | with_reducible refine w_dnotin ?_ | with_reducible refine w_dget ?_ | with_reducible refine w_dput ?_ | with_reducible refine w_ddel ?_ | with_reducible refine w_dpop ?_)
section
variable {P : Program} {w : World} {K : PySem.W.Frag} {mg : Str → Option Value} {base : Heap} {aREG aOPS : Addr}
section
variable {L : List Cell} {H : Hp} {Q : VK} {a b : Addr} {xs ys : List V}
theorem g_slT {K : PySem.W.Frag} {lo hi : Option Int} (hh : Hd H L) (ha : SqT K H a xs) (hn : ¬ (HT.sIx xs.length 0 lo = 0 ∧ HT.sIx xs.length xs.length hi = xs.length)) (e : cutV xs lo hi = ys) (q : ∀ p H2, Hd H2 (tupC p ys :: L) → Q (.ref p) H2) : rSlT K (.ref a) lo hi H Q :=
  ⟨a, xs, rfl, ha, hn, fun p hp => q p _ (hh.newT (e ▸ New.of hp))⟩
end
theorem dn_scs {H : Hp} : ∀ {ds : List PyData}, (∀ d ∈ ds, Sc (scV d) d) → Paired (Dn K [] H 0) (ds.map scV) ds
  | [], _ => .nil
  | d :: ds, h => .cons (show Sc (scV d) d from h d (List.mem_cons_self ..)) (dn_scs fun e he => h e (List.mem_cons_of_mem _ he))
theorem lr_sc (r : LRow) : ∀ d ∈ lrD r, Sc (scV d) d := by
  intro d hd
  cases r with
  | pick w =>
    cases w <;> simp only [lrD, List.mem_cons, List.not_mem_nil, or_false] at hd <;> rcases hd with rfl | rfl <;> constructor
  | enter k p => simp only [lrD, List.mem_cons, List.not_mem_nil, or_false] at hd; rcases hd with rfl | rfl | rfl <;> constructor
  | lend k p => simp only [lrD, List.mem_cons, List.not_mem_nil, or_false] at hd; rcases hd with rfl | rfl | rfl <;> constructor
  | _ => simp only [lrD, List.mem_cons, List.not_mem_nil, or_false] at hd; rcases hd with rfl | rfl <;> constructor
theorem lrD_len (r : LRow) : (lrD r).length ≤ 3 := by
  cases r with
  | pick w => cases w <;> exact Nat.le_succ 2
  | enter k p => exact Nat.le_refl 3
  | lend k p => exact Nat.le_refl 3
  | _ => exact Nat.le_succ 2
/-- a row's own cell -/
theorem dn_own {H : Hp} {L : List Cell} {t : Addr} {r : LRow} {xs : List V} (hh : Hd H L) (h : tupC t xs ∈ L) (e : xs = (lrD r).map scV) : Dn K [] H 1 (.ref t) (.tuple (lrD r)) :=
  .inr (.inr ⟨t, (lrD r).map scV, _, rfl, rfl, List.not_mem_nil, e ▸ hh.sqT h, (by rw [List.length_map]; exact Nat.le_trans (lrD_len r) (by decide)), dn_scs (lr_sc r)⟩)
section
variable {C : Addr}
def sp_logged (K : PySem.W.Frag) (C : Addr) : Sp := fun vs H Q _ => ∃ (o t : Addr) (d : Deed) (S : AgS) (Z R : List Cell), vs = [.ref o, .ref t] ∧ tupC t (dV d) ∈ R ∧ AgB C o S Z ∧ ok1 (domS S) d ∧ Awake d ∧ Hd H (Z ++ R) ∧
  ∀ (w : Option Nat) S' Z' x Y' H', Out S d (whoV w) S' → AgB C o S' Z' → (∀ H, Hd H (Y' ++ [tupC t (dV d)]) → Dn K [] H 1 x (.tuple (lrD (rowOf d w)))) → Hd H' (Z' ++ (Y' ++ R)) → Q x H'
theorem c_logged (T : Txt K mg aREG aOPS) (L : AgC K C) (d : DefAt K mg "_law_logged" s__law_logged) (c_Ages_pick : C8.Met P w K mg base 5 C "pick" (sp_pickA C) []) (c_Ages_leave : C8.Met P w K mg base 5 C "leave" (sp_leave C) []) (c_Ages_wake : C8.Met P w K mg base 5 C "wake" (sp_deed C wakeM) []) (c_Ages_sleep : C8.Met P w K mg base 5 C "sleep" (sp_deed C sleepM) [])
    (c_Ages_lend2 : C8.Met P w K mg base 5 C "lend" (sp_lend C) []) (c_Ages_enter2 : C8.Met P w K mg base 5 C "enter" (sp_enter C) [.bl true]) : C8.Cal P w K mg base 6 "_law_logged" (sp_logged K C) [] := by
  refine mk d sc__law_logged (fun _ _ _ _ _ _ us hl => match us, hl with | [_, _], _ => rfl) (fun vs H Q E h => ?_) (fun fa cdv A outer s H vs Q E hr h => ?_)
  · obtain ⟨o, t, d, S, Z, R, rfl, _⟩ := h
    rfl
  · obtain ⟨o, t, d, S, Z, R, rfl, ht, hb, hok, haw, hh, q⟩ := h
    refine ⟨_, (pss_cons (ps_if (pt_cmpR op_eq (pe_ix ix_tup (pv 1) pe_int (fun _ _ => rfl)) pe_str (nomark _))
    (pss_one (ps_ret (pe_tup (pa_cons pe_str (pa_cons (C8.pe_mt0 c_Ages_pick hr (by first | decide | omega) (pv 0)) pa_nil)))))
    pss_nil)
  (pss_cons (ps_if (pt_cmpR op_eq (pe_ix ix_tup (pv 1) pe_int (fun _ _ => rfl)) pe_str (nomark _))
    (pss_cons (ps_expr (C8.pe_mt c_Ages_enter2 hr (by first | decide | omega) (pv 0) (pa_cons (pe_ix ix_tup (pv 1) pe_int (fun _ _ => rfl)) (pa_cons (pe_ix ix_tup (pv 1) pe_int (fun _ _ => rfl)) pa_nil))))
      (pss_one (ps_ret (pe_slice sl_tup (pv 1) po_none (po_some pe_int)))))
    pss_nil)
  (pss_cons (ps_if (pt_cmpR op_eq (pe_ix ix_tup (pv 1) pe_int (fun _ _ => rfl)) pe_str (nomark _))
    (pss_one (ps_expr (C8.pe_mt c_Ages_leave hr (by first | decide | omega) (pv 0) (pa_cons (pe_ix ix_tup (pv 1) pe_int (fun _ _ => rfl)) pa_nil))))
    (pss_one (ps_if (pt_cmpR op_eq (pe_ix ix_tup (pv 1) pe_int (fun _ _ => rfl)) pe_str (nomark _))
        (pss_one (ps_expr (C8.pe_mt c_Ages_wake hr (by first | decide | omega) (pv 0) (pa_cons (pe_ix ix_tup (pv 1) pe_int (fun _ _ => rfl)) pa_nil))))
        (pss_one (ps_if (pt_cmpR op_eq (pe_ix ix_tup (pv 1) pe_int (fun _ _ => rfl)) pe_str (nomark _))
            (pss_one (ps_expr (C8.pe_mt c_Ages_sleep hr (by first | decide | omega) (pv 0) (pa_cons (pe_ix ix_tup (pv 1) pe_int (fun _ _ => rfl)) pa_nil))))
            (pss_one (ps_expr (C8.pe_mt c_Ages_lend2 hr (by first | decide | omega) (pv 0) (pa_cons (pe_ix ix_tup (pv 1) pe_int (fun _ _ => rfl)) (pa_cons (pe_ix ix_tup (pv 1) pe_int (fun _ _ => rfl)) pa_nil))))))))))
  (pss_one (ps_ret (pv 1)))))), ?_⟩
    have hb2 := hb
    obtain ⟨dd, Z1, tb, rfl⟩ := hb
    have h1 : Hd H (agI o C dd :: (Z1 ++ R)) := hh
    have get : ∀ {k : Nat}, domS S k = true → ∃ m, S k = some m := fun h => Option.isSome_iff_exists.mp h
    cases d with
    | pick =>
      have ht : tupC t [V.str (Str.ofString "pick")] ∈ R := ht
      walk_at "gs"
      refine ⟨o, S, _, R, rfl, hb2, hh, fun he H' h' => ?_, fun p Z' H' hp hb' h' => ?_⟩
      · walk_at "gs"
        rename_i tn H2 h2
        have h2 : Hd H2 (tupC tn [V.str (Str.ofString "pick"), .non] :: agI o C dd :: (Z1 ++ R)) := h2
        exact q none _ _ (.ref tn) [tupC tn [V.str (Str.ofString "pick"), .non]] H2 (.inl ⟨rfl, .inl ⟨he, rfl, rfl⟩⟩) hb2 (fun H h => dn_own h (List.mem_cons_self ..) rfl) (show Hd H2 (agI o C dd :: (Z1 ++ (tupC tn [V.str (Str.ofString "pick"), .non] :: R))) from Hd.sb h2 (by walk_at "sbx"))
      · walk_at "gs"
        rename_i tn H2 h2
        exact q (some p) _ _ (.ref tn) [tupC tn [V.str (Str.ofString "pick"), .int (p : Int)]] H2 (.inl ⟨rfl, .inr ⟨p, hp, rfl, rfl⟩⟩) hb' (fun H h => dn_own h (List.mem_cons_self ..) rfl) (show Hd H2 (Z' ++ (tupC tn [V.str (Str.ofString "pick"), .int (p : Int)] :: R)) from Hd.sb h2 (by walk_at "sbx"))
    | leave k =>
      have ht : tupC t [V.str (Str.ofString "leave"), V.int (k : Int)] ∈ R := ht
      walk_at "gs"
      obtain ⟨m, hk⟩ := get hok
      refine ⟨o, k, m, S, _, R, rfl, hb2, hk, hh, fun Z' H1 hb' h1 => ?_⟩
      walk_at "gs"
      exact q none _ Z' (.ref t) [] H1 (.inr ⟨(fun z => by cases z), rfl, rfl⟩) hb' (fun H h => dn_own h (List.mem_singleton.mpr rfl) rfl) h1
    | wake k =>
      have ht : tupC t [V.str (Str.ofString "wake"), V.int (k : Int)] ∈ R := ht
      walk_at "gs"
      obtain ⟨m, hk⟩ := get hok
      refine ⟨o, k, m, S, _, R, rfl, hb2, hk, hh, fun Z' H1 hb' h1 => ?_⟩
      walk_at "gs"
      exact q none _ Z' (.ref t) [] H1 (.inr ⟨(fun z => by cases z), rfl, (by rw [show stepS S (.wake k) = upS S k ((S k).map wakeM) from rfl, hk]; rfl)⟩) hb' (fun H h => dn_own h (List.mem_singleton.mpr rfl) rfl) h1
    | sleep k =>
      have ht : tupC t [V.str (Str.ofString "sleep"), V.int (k : Int)] ∈ R := ht
      walk_at "gs"
      obtain ⟨m, hk⟩ := get hok
      refine ⟨o, k, m, S, _, R, rfl, hb2, hk, hh, fun Z' H1 hb' h1 => ?_⟩
      walk_at "gs"
      exact q none _ Z' (.ref t) [] H1 (.inr ⟨(fun z => by cases z), rfl, (by rw [show stepS S (.sleep k) = upS S k ((S k).map sleepM) from rfl, hk]; rfl)⟩) hb' (fun H h => dn_own h (List.mem_singleton.mpr rfl) rfl) h1
    | lend k p =>
      have ht : tupC t [V.str (Str.ofString "lend"), V.int (k : Int), V.int (p : Int)] ∈ R := ht
      walk_at "gs"
      obtain ⟨m, hk⟩ := get hok.2
      refine ⟨o, k, p, m, S, _, R, rfl, hok.1, hb2, hk, hh, fun Z' H1 hb' h1 => ?_⟩
      walk_at "gs"
      exact q none _ Z' (.ref t) [] H1 (.inr ⟨(fun z => by cases z), rfl, (by rw [show stepS S (.lend k p) = upS S k ((S k).map fun m => { m with lent := p }) from rfl, hk]; rfl)⟩) hb' (fun H h => dn_own h (List.mem_singleton.mpr rfl) rfl) h1
    | enter k p r =>
      have hr' : r = true := haw
      subst hr'
      have ht : tupC t [V.str (Str.ofString "enter"), V.int (k : Int), V.int (p : Int), V.bl true] ∈ R := ht
      obtain ⟨hk8, hp7, hno⟩ := hok
      have hno : S k = none := by
        cases e : S k with
        | none => rfl
        | some x => rw [show domS S k = (S k).isSome from rfl, e] at hno; cases hno
      walk_at "gs"
      refine ⟨o, k, p, true, S, _, R, rfl, by omega, hp7, hb2, hno, hh, fun Z' H1 hb' h1 => ?_⟩
      walk_at "gs"
      refine g_slT (ys := [V.str (Str.ofString "enter"), V.int (k : Int), V.int (p : Int)]) h1 (h1.sqT (List.mem_append_right _ ht)) (by unfold HT.sIx; simp) (by rfl) fun tn H2 h2 => ?_
      walk_at "gs"
      exact q none _ Z' (.ref tn) [tupC tn [V.str (Str.ofString "enter"), V.int (k : Int), V.int (p : Int)]] H2 (.inr ⟨(fun z => by cases z), rfl, rfl⟩) hb' (fun H h => dn_own h (List.mem_cons_self ..) rfl) (show Hd H2 (Z' ++ (tupC tn [V.str (Str.ofString "enter"), V.int (k : Int), V.int (p : Int)] :: R)) from Hd.sb h2 (by walk_at "sbx"))
end
end
end K24
set_option Elab.async false
set_option linter.all false
set_option maxRecDepth 100000
set_option maxHeartbeats 4000000
namespace K24
open PySem PySem.Spec PyProof.Rows L2 Wk
local macro_rules | `(tactic| walk_at "u1") => `(tactic| fail "no more")
local macro_rules | `(tactic| walk_at "pos") => `(tactic| first | assumption | omega | decide | (simp only [Int.ofNat_eq_natCast] at *; omega))
local macro_rules | `(tactic| walk_at "sz") => `(tactic| first
  | (simp only [List.length_cons, List.length_nil]; decide)
  | exact Evl.sz_of (by omega)
  | exact Evl.sz_lt (by omega)
  | exact Evl.sz_of (by simp only [List.length_map, List.length_append, List.length_cons, List.length_nil, List.length_replicate]; omega)
  | exact Evl.sz_lt (by simp only [List.length_map, List.length_append, List.length_cons, List.length_nil, List.length_replicate]; omega))
local macro_rules | `(tactic| walk_at "cond") => `(tactic| first
  | exact Or.inr ⟨by decide, by decide⟩
  | (show (0 : Int) < _; first | decide | assumption | omega)
  | exact Or.inl ⟨by omega, by omega⟩
  | exact Or.inr ⟨by omega, by omega⟩
  | exact ⟨by decide, by decide, by decide⟩
  | exact log2_lt (by omega) (by omega)
  | exact ⟨by omega, by omega⟩)
local macro_rules | `(tactic| walk_at "ty") => `(tactic| first
  | exact ty_int | exact ty_bl | exact ty_str | exact ty_non
  | exact ty_L (by assumption) | exact ty_T (by assumption)
  | exact ty_L (SqL.of (by assumption)) | exact ty_T (SqT.of (by assumption)))
local macro_rules | `(tactic| walk_at "kit") => `(tactic| first
  | exact k_ii | exact k_ib | exact k_is | exact k_il | exact k_it
  | exact k_bb | exact k_bi | exact k_bs | exact k_bl | exact k_bt
  | exact k_ss | exact k_sb | exact k_si | exact k_sl | exact k_st
  | exact k_ll | exact k_lb | exact k_li | exact k_ls | exact k_lt
  | exact k_tt | exact k_tb | exact k_ti | exact k_ts | exact k_tl
  | exact k_nn | exact k_ni | exact k_ns | exact k_nl | exact k_nt)
local macro_rules | `(tactic| walk_at "s1") => `(tactic| first
  | with_reducible refine w_seq ?_
  | with_reducible refine w_set ?_
  | with_reducible refine w_op ?_
  | ((with_reducible refine' w_var ?h1 ?_); (case h1 => rfl))
  | with_reducible refine w_c ?_
  | with_reducible refine w_cb ?_
  | with_reducible refine w_cons ?_
  | with_reducible refine w_nil ?_
  | with_reducible refine w_I0 ?_
  | ((with_reducible refine' w_I ?c1 ?_); case c1 => walk_at "cond")
  | with_reducible refine w_ret ?_
  | with_reducible refine w_next ?_
  | with_reducible refine w_ifS ?_
  | with_reducible refine w_test ?_
  | with_reducible refine w_tB ?_
  | with_reducible refine w_k ?_
  | with_reducible refine w_eqI ?_
  | with_reducible refine w_neI ?_
  | with_reducible refine w_eqS ?_
  | with_reducible refine w_neS ?_
  | with_reducible refine w_and ?_
  | with_reducible refine w_or ?_
  | with_reducible refine w_not ?_
  | with_reducible refine w_andV ?_
  | with_reducible refine w_orV ?_
  | with_reducible refine w_notV ?_
  | with_reducible refine w_ifE ?_
  | with_reducible refine w_true ?_
  | with_reducible refine w_false ?_
  | with_reducible refine w_ntrue ?_
  | with_reducible refine w_nfalse ?_
  | with_reducible refine w_call ?_
  | with_reducible refine c_int ?_
  | with_reducible refine c_abs ?_
  | with_reducible refine c_max ?_
  | with_reducible refine c_min ?_
  | with_reducible refine w_drop ?_
  | with_reducible refine w_sfld ?_
  | with_reducible refine w_meth ?_
  | with_reducible refine w_make ?_
  | with_reducible refine w_prop ?_
  | with_reducible refine w_callK ?_
  | with_reducible refine w_callN ?_
  | with_reducible refine w_star ?_
  | with_reducible refine w_gcons ?_
  | with_reducible refine w_gname ?_
  | with_reducible refine w_gnil ?_
  | with_reducible refine w_retN ?_
  | with_reducible refine w_tup ?_
  | with_reducible refine w_lst ?_
  | with_reducible refine w_fld ?_
  | with_reducible refine w_bm ?_
  | with_reducible refine w_bm0 ?_
  | with_reducible refine w_forL ?_
  | with_reducible refine w_forT ?_
  | with_reducible refine w_forS ?_
  | with_reducible refine w_forR ?_
  | with_reducible refine w_lcR ?_
  | with_reducible refine w_lcL ?_
  | with_reducible refine w_lcT ?_
  | with_reducible refine w_isN ?_
  | with_reducible refine w_notN ?_
  | with_reducible refine w_asg ?_
  | with_reducible refine w_gsub ?_
  | ((with_reducible refine' w_aug ?h1 ?_); (case h1 => rfl))
  | with_reducible refine w_augS ?_
  | with_reducible refine w_ipI ?_
  | with_reducible refine w_un ?_
  | with_reducible refine w_U ?_
  | ((with_reducible refine' w_iteF ?f1 ?_); case f1 => (first | (intro h; cases h; done) | decide))
  | ((with_reducible refine' w_iteT ?f1 ?_); case f1 => rfl)
  | ((with_reducible refine' w_iteNF ?f1 ?_); case f1 => rfl)
  | ((with_reducible refine' w_iteNT ?f1 ?_); case f1 => (first | (intro h; cases h; done) | decide))
  | ((with_reducible refine' c_isi ?t1 ?k1 ?_); (case t1 => walk_at "ty"); (case k1 => walk_at "kit"))
  | ((with_reducible refine' w_eq ?e1 ?_); case e1 => rfl)
  | ((with_reducible refine' w_ne ?e1 ?_); case e1 => rfl)
  | walk_at "u1")
local macro_rules | `(tactic| walk_at "s") => `(tactic| repeat walk_at "s1")
local macro_rules | `(tactic| walk_at "mem") => `(tactic| first | with_reducible exact List.mem_cons_self .. | ((with_reducible refine' List.mem_cons_of_mem _ ?q); (case q => walk_at "mem")) | assumption | ((with_reducible refine' List.mem_append_right _ ?q); (case q => walk_at "mem")) | (exact List.mem_append_left _ (by assumption)))
local macro_rules | `(tactic| walk_at "pk") => `(tactic| first | with_reducible exact Pk.here | ((with_reducible refine' Pk.there ?q); (case q => walk_at "pk")) | ((with_reducible refine' Pk.app ?q); (case q => walk_at "pk")))
local macro_rules | `(tactic| walk_at "pkb") => `(tactic| first | with_reducible exact PkB.here | ((with_reducible refine' PkB.there ?q); (case q => walk_at "pkb")) | ((with_reducible refine' PkB.app ?q); (case q => walk_at "pkb")))
local macro_rules | `(tactic| walk_at "spl") => `(tactic| first | with_reducible exact Spl.nil | ((with_reducible refine' Spl.cons ?h ?t); (case h => walk_at "pk"); (case t => walk_at "spl")) | ((with_reducible refine' Spl.blk ?h ?t); (case h => walk_at "pkb"); (case t => walk_at "spl")))
local macro_rules | `(tactic| walk_at "sbx") => `(tactic| first | with_reducible exact Sb.refl | with_reducible exact Sb.nil | with_reducible exact Sb.left | ((with_reducible refine' Sb.cons ?h ?t); (case h => walk_at "pk"); (case t => walk_at "sbx")) | ((with_reducible refine' Sb.blk ?h ?t); (case h => walk_at "pkb"); (case t => walk_at "sbx")) | ((with_reducible refine' Sb.drop ?q); (case q => walk_at "sbx")) | ((with_reducible refine' Sb.right ?q); (case q => walk_at "sbx")))
local macro_rules | `(tactic| walk_at "hd") => `(tactic| first | assumption | exact Hd.sb (by assumption) (by walk_at "sbx"))
local macro_rules | `(tactic| walk_at "sq") => `(tactic| first
  | assumption
  | exact Hd.sqL (by assumption) (by walk_at "mem")
  | exact Hd.sqT (by assumption) (by walk_at "mem")
  | exact Hd.sqF (by assumption) (by walk_at "mem")
  | (refine .inl ?_; walk_at "sq")
  | (refine .inr ?_; walk_at "sq"))
local macro_rules | `(tactic| walk_at "at") => `(tactic| first | rfl | assumption | exact atI_nat (by assumption))
local macro_rules | `(tactic| walk_at "dn1") => `(tactic| first
  | exact Dn.int | exact Dn.str | exact Dn.non | exact Dn.bl | assumption
  | ((refine' Dn.tp ?a1 ?m1 ?l1 ?p1); (case a1 => assumption); (case m1 => walk_at "mem"); (case l1 => (simp only [List.length_cons, List.length_nil]; omega)); (case p1 => walk_at "dns"))
  | ((refine' Dn.lt ?a1 ?m1 ?l1 ?p1); (case a1 => assumption); (case m1 => walk_at "mem"); (case l1 => (simp only [List.length_cons, List.length_nil]; omega)); (case p1 => walk_at "dns")))
local macro_rules | `(tactic| walk_at "dns") => `(tactic| first | exact Paired.nil | exact Dn.ints | ((refine' Paired.cons ?a1 ?b1); (case a1 => walk_at "dn1"); (case b1 => walk_at "dns")))
local macro_rules | `(tactic| walk_at "g1") => `(tactic| first
  | ((with_reducible refine' g_ixI ?h1 ?h2 ?h3 ?_); (case h1 => assumption); (case h2 => walk_at "mem"); (case h3 => omega); intro z hz)
  | ((with_reducible refine' g_ixIT ?h1 ?h2 ?h3 ?_); (case h1 => assumption); (case h2 => walk_at "mem"); (case h3 => omega); intro z hz)
  | ((with_reducible refine' g_setI ?h1 ?h2 ?h3 ?_); (case h1 => assumption); (case h2 => walk_at "pk"); (case h3 => omega); intro H2 hh2)
  | ((with_reducible refine' w_ixL ?h1 ?h2 ?_); (case h1 => walk_at "sq"); (case h2 => walk_at "at"))
  | ((with_reducible refine' w_ixT ?h1 ?h2 ?_); (case h1 => walk_at "sq"); (case h2 => walk_at "at"))
  | ((with_reducible refine' w_ixAny ?h1 ?h2 ?_); (case h1 => walk_at "sq"); (case h2 => walk_at "at"))
  | ((with_reducible refine' c_lenA ?h1 ?_); (case h1 => walk_at "sq"))
  | ((with_reducible refine' c_isi ?t1 ?k1 ?_); (case t1 => first | exact ty_T (by walk_at "sq") | exact ty_L (by walk_at "sq")); (case k1 => walk_at "kit"))
  | ((with_reducible refine' g_lst ?h1 ?h2 ?_); (case h1 => assumption); (case h2 => walk_at "sz"); intro p H2 hh2)
  | ((with_reducible refine' g_tup ?h1 ?h2 ?_); (case h1 => assumption); (case h2 => walk_at "sz"); intro p H2 hh2)
  | ((with_reducible refine' g_dict ?h1 ?_); (case h1 => assumption); intro p H2 hh2)
  | ((with_reducible refine' g_listL ?h1 ?h2 ?_); (case h1 => assumption); (case h2 => walk_at "sq"); intro p H2 hh2)
  | ((with_reducible refine' g_listT ?h1 ?h2 ?_); (case h1 => assumption); (case h2 => walk_at "sq"); intro p H2 hh2)
  | ((with_reducible refine' g_tupL ?h1 ?h2 ?_); (case h1 => assumption); (case h2 => walk_at "sq"); intro p H2 hh2)
  | ((with_reducible refine' g_set ?h1 ?h2 ?h3 ?_); (case h1 => assumption); (case h2 => walk_at "pk"); (case h3 => first | rfl | assumption | exact Evl.ixN_nat (by first | omega | (simp only [List.length_cons, List.length_nil]; omega))); intro H2 hh2)
  | ((with_reducible refine' g_kbm ?h1 ?h2 ?_); (case h1 => assumption); (case h2 => walk_at "mem"))
  | ((with_reducible refine' g_kbm0 ?h1 ?h2 ?_); (case h1 => assumption); (case h2 => walk_at "mem"))
  | ((with_reducible refine' g_app ?h1 ?h2 ?h3 ?_); (case h1 => assumption); (case h2 => walk_at "pk"); (case h3 => walk_at "sz"); intro H2 hh2)
  | ((with_reducible refine' g_kapp ?h1 ?h2 ?h3 ?_); (case h1 => assumption); (case h2 => walk_at "pk"); (case h3 => walk_at "sz"); intro H2 hh2)
  | ((with_reducible refine' g_fld ?h1 ?h2 ?h3 ?h4 ?h5 ?_); (case h1 => assumption); (case h2 => walk_at "mem"); (case h3 => assumption); (case h4 => assumption); (case h5 => rfl))
  | ((with_reducible refine' g_sfld ?h1 ?h2 ?h3 ?h4 ?h5 ?_); (case h1 => assumption); (case h2 => walk_at "pk"); (case h3 => assumption); (case h4 => assumption); (case h5 => decide); intro H2 hh2)
  | ((with_reducible refine' g_meth ?h1 ?h2 ?h3 ?_); (case h1 => assumption); (case h2 => walk_at "mem"); (case h3 => rfl))
  | ((with_reducible refine' g_prop ?h1 ?h2 ?_); (case h1 => assumption); (case h2 => walk_at "mem"))
  | ((with_reducible refine' g_make ?h1 ?_); (case h1 => assumption); intro x H2 hh2)
  | ((with_reducible refine' g_cat ?h1 ?h2 ?h3 ?h4 ?_); (case h1 => assumption); (case h2 => walk_at "mem"); (case h3 => walk_at "mem"); (case h4 => walk_at "sz"); intro p H2 hh2)
  | ((with_reducible refine' g_inT ?h1 ?h2 ?h3 ?h4 ?h5 ?_); (case h1 => assumption); (case h2 => walk_at "mem"); (case h3 => rfl); (case h4 => rfl); (case h5 => rfl)))
local macro_rules | `(tactic| walk_at "gs") => `(tactic| repeat first | walk_at "s1" | walk_at "g1")
local macro_rules | `(tactic| walk_at "ite") => `(tactic| first
  | ((with_reducible refine' w_iteT ?h1 ?_); (case h1 => omega))
  | ((with_reducible refine' w_iteF ?h1 ?_); (case h1 => omega))
  | (with_reducible refine w_ite ?_ ?_ <;> intro hq)
  | ((with_reducible refine' w_iteNT ?h1 ?_); (case h1 => omega))
  | ((with_reducible refine' w_iteNF ?h1 ?_); (case h1 => omega))
  | (with_reducible refine w_iteN ?_ ?_ <;> intro hq))
local macro_rules | `(tactic| walk_at "go") => `(tactic| repeat' first | walk_at "s1" | walk_at "g1" | walk_at "ite")
local macro_rules | `(tactic| walk_at "g1") => `(tactic| first
  | ((with_reducible refine' g_take1 ?h1 ?h2 ?h3 ?h4 ?_); (case h1 => assumption); (case h2 => walk_at "spl"); (case h3 => omega); (case h4 => omega); intro k H2 hk1 hh2)
  | ((with_reducible refine' g_take ?h1 ?h2 ?h4 ?_); (case h1 => assumption); (case h2 => walk_at "spl"); (case h4 => omega); intro k H2 hk1 hh2)
  | ((with_reducible refine' g_betweenN ?h1 ?h2 ?h5 ?h3 ?h4 ?_); (case h1 => assumption); (case h2 => walk_at "spl"); (case h5 => omega); (case h3 => omega); (case h4 => omega); intro k H2 hk1 hk2 hh2)
  | ((with_reducible refine' g_between ?h1 ?h2 ?h3 ?h4 ?_); (case h1 => assumption); (case h2 => walk_at "spl"); (case h3 => omega); (case h4 => omega); intro k H2 hk1 hk2 hh2)
  | ((with_reducible refine' g_size ?h1 ?h2 ?h3 ?h4 ?_); (case h1 => assumption); (case h2 => walk_at "spl"); (case h3 => omega); (case h4 => omega); intro k H2 hk1 hh2)
  | ((with_reducible refine' g_word ?h1 ?h2 ?_); (case h1 => assumption); (case h2 => walk_at "spl"); intro k H2 hk1 hh2))
local macro_rules | `(tactic| walk_at "g1") => `(tactic| first | with_reducible refine w_sl ?_ | with_reducible refine w_part ?_ | with_reducible refine w_noPart ?_ | with_reducible refine w_exI ?_)
local macro_rules | `(tactic| walk_at "g1") => `(tactic| first | with_reducible refine w_din ?_ | with_reducible refine w_dnotin ?_ | with_reducible refine w_dget ?_ | with_reducible refine w_dput ?_ | with_reducible refine w_ddel ?_ | with_reducible refine w_dpop ?_)
section
variable {P : Program} {w : World} {K : PySem.W.Frag} {mg : Str → Option Value} {base : Heap} {aREG aOPS : Addr}
/-! ### each row fits those ahead of it -/
def okRow (f : Nat → Bool) : LRow → Prop
  | .enter k p => k < 8 ∧ p ≤ 7 ∧ f k = false
  | .leave k => k < 8 ∧ f k = true
  | _ => True
theorem LogOf.fits {rs : List LRow} {S : AgS} (h : LogOf rs S) : ∀ i r, rs[i]? = some r → okRow (cAll (rs.take i)).f r := by
  induction h with
  | nil => exact fun i r e => by cases e
  | @snoc rs S S' d w hL hok haw ho ih =>
    intro i r hr
    by_cases hi : i < rs.length
    · rw [List.getElem?_append_left hi] at hr
      rw [List.take_append_of_le_length (Nat.le_of_lt hi)]
      exact ih i r hr
    · have hi2 : i < (rs ++ [rowOf d w]).length := (List.getElem?_eq_some_iff.mp hr).1
      rw [List.length_append] at hi2
      have hi3 : i < rs.length + 1 := hi2
      have e : i = rs.length := by omega
      subst e
      rw [List.getElem?_append_right (Nat.le_refl _), Nat.sub_self] at hr
      cases hr
      rw [List.take_left, (bounds hL).1]
      cases d with
      | enter k p r => exact hok
      | leave k => exact ⟨hL.lt k hok, hok⟩
      | _ => exact trivial
/-- members told by a list: as many as there are -/
theorem ms_count {ms : List Nat} {f : Nat → Bool} (hn : ms.Nodup) (hm : ∀ j, j ∈ ms ↔ j < 8 ∧ f j = true) : ms.length = (List.range 8).countP f := by
  rw [List.countP_eq_length_filter]
  refine List.Perm.length_eq ((List.perm_ext_iff_of_nodup hn ?_).mpr fun j => ?_)
  · exact (show (List.range 8).Nodup from List.nodup_range).sublist List.filter_sublist
  · rw [hm, List.mem_filter, List.mem_range]
end
end K24
set_option Elab.async false
set_option linter.all false
set_option maxRecDepth 100000
set_option maxHeartbeats 4000000
namespace K24
open PySem PySem.Spec PyProof.Rows L2 Wk
local macro_rules | `(tactic| walk_at "u1") => `(tactic| fail "no more")
local macro_rules | `(tactic| walk_at "pos") => `(tactic| first | assumption | omega | decide | (simp only [Int.ofNat_eq_natCast] at *; omega))
local macro_rules | `(tactic| walk_at "sz") => `(tactic| first
  | (simp only [List.length_cons, List.length_nil]; decide)
  | exact Evl.sz_of (by omega)
  | exact Evl.sz_lt (by omega)
  | exact Evl.sz_of (by simp only [List.length_map, List.length_append, List.length_cons, List.length_nil, List.length_replicate]; omega)
  | exact Evl.sz_lt (by simp only [List.length_map, List.length_append, List.length_cons, List.length_nil, List.length_replicate]; omega))
local macro_rules | `(tactic| walk_at "cond") => `(tactic| first
  | exact Or.inr ⟨by decide, by decide⟩
  | (show (0 : Int) < _; first | decide | assumption | omega)
  | exact Or.inl ⟨by omega, by omega⟩
  | exact Or.inr ⟨by omega, by omega⟩
  | exact ⟨by decide, by decide, by decide⟩
  | exact log2_lt (by omega) (by omega)
  | exact ⟨by omega, by omega⟩)
local macro_rules | `(tactic| walk_at "ty") => `(tactic| first
  | exact ty_int | exact ty_bl | exact ty_str | exact ty_non
  | exact ty_L (by assumption) | exact ty_T (by assumption)
  | exact ty_L (SqL.of (by assumption)) | exact ty_T (SqT.of (by assumption)))
local macro_rules | `(tactic| walk_at "kit") => `(tactic| first
  | exact k_ii | exact k_ib | exact k_is | exact k_il | exact k_it
  | exact k_bb | exact k_bi | exact k_bs | exact k_bl | exact k_bt
  | exact k_ss | exact k_sb | exact k_si | exact k_sl | exact k_st
  | exact k_ll | exact k_lb | exact k_li | exact k_ls | exact k_lt
  | exact k_tt | exact k_tb | exact k_ti | exact k_ts | exact k_tl
  | exact k_nn | exact k_ni | exact k_ns | exact k_nl | exact k_nt)
local macro_rules | `(tactic| walk_at "s1") => `(tactic| first
  | with_reducible refine w_seq ?_
  | with_reducible refine w_set ?_
  | with_reducible refine w_op ?_
  | ((with_reducible refine' w_var ?h1 ?_); (case h1 => rfl))
  | with_reducible refine w_c ?_
  | with_reducible refine w_cb ?_
  | with_reducible refine w_cons ?_
  | with_reducible refine w_nil ?_
  | with_reducible refine w_I0 ?_
  | ((with_reducible refine' w_I ?c1 ?_); case c1 => walk_at "cond")
  | with_reducible refine w_ret ?_
  | with_reducible refine w_next ?_
  | with_reducible refine w_ifS ?_
  | with_reducible refine w_test ?_
  | with_reducible refine w_tB ?_
  | with_reducible refine w_k ?_
  | with_reducible refine w_eqI ?_
  | with_reducible refine w_neI ?_
  | with_reducible refine w_eqS ?_
  | with_reducible refine w_neS ?_
  | with_reducible refine w_and ?_
  | with_reducible refine w_or ?_
  | with_reducible refine w_not ?_
  | with_reducible refine w_andV ?_
  | with_reducible refine w_orV ?_
  | with_reducible refine w_notV ?_
  | with_reducible refine w_ifE ?_
  | with_reducible refine w_true ?_
  | with_reducible refine w_false ?_
  | with_reducible refine w_ntrue ?_
  | with_reducible refine w_nfalse ?_
  | with_reducible refine w_call ?_
  | with_reducible refine c_int ?_
  | with_reducible refine c_abs ?_
  | with_reducible refine c_max ?_
  | with_reducible refine c_min ?_
  | with_reducible refine w_drop ?_
  | with_reducible refine w_sfld ?_
  | with_reducible refine w_meth ?_
  | with_reducible refine w_make ?_
  | with_reducible refine w_prop ?_
  | with_reducible refine w_callK ?_
  | with_reducible refine w_callN ?_
  | with_reducible refine w_star ?_
  | with_reducible refine w_gcons ?_
  | with_reducible refine w_gname ?_
  | with_reducible refine w_gnil ?_
  | with_reducible refine w_retN ?_
  | with_reducible refine w_tup ?_
  | with_reducible refine w_lst ?_
  | with_reducible refine w_fld ?_
  | with_reducible refine w_bm ?_
  | with_reducible refine w_bm0 ?_
  | with_reducible refine w_forL ?_
  | with_reducible refine w_forT ?_
  | with_reducible refine w_forS ?_
  | with_reducible refine w_forR ?_
  | with_reducible refine w_lcR ?_
  | with_reducible refine w_lcL ?_
  | with_reducible refine w_lcT ?_
  | with_reducible refine w_isN ?_
  | with_reducible refine w_notN ?_
  | with_reducible refine w_asg ?_
  | with_reducible refine w_gsub ?_
  | ((with_reducible refine' w_aug ?h1 ?_); (case h1 => rfl))
  | with_reducible refine w_augS ?_
  | with_reducible refine w_ipI ?_
  | with_reducible refine w_un ?_
  | with_reducible refine w_U ?_
  | ((with_reducible refine' w_iteF ?f1 ?_); case f1 => (first | (intro h; cases h; done) | decide))
  | ((with_reducible refine' w_iteT ?f1 ?_); case f1 => rfl)
  | ((with_reducible refine' w_iteNF ?f1 ?_); case f1 => rfl)
  | ((with_reducible refine' w_iteNT ?f1 ?_); case f1 => (first | (intro h; cases h; done) | decide))
  | ((with_reducible refine' c_isi ?t1 ?k1 ?_); (case t1 => walk_at "ty"); (case k1 => walk_at "kit"))
  | ((with_reducible refine' w_eq ?e1 ?_); case e1 => rfl)
  | ((with_reducible refine' w_ne ?e1 ?_); case e1 => rfl)
  | walk_at "u1")
local macro_rules | `(tactic| walk_at "s") => `(tactic| repeat walk_at "s1")
local macro_rules | `(tactic| walk_at "mem") => `(tactic| first | with_reducible exact List.mem_cons_self .. | ((with_reducible refine' List.mem_cons_of_mem _ ?q); (case q => walk_at "mem")) | assumption | ((with_reducible refine' List.mem_append_right _ ?q); (case q => walk_at "mem")) | (exact List.mem_append_left _ (by assumption)))
local macro_rules | `(tactic| walk_at "pk") => `(tactic| first | with_reducible exact Pk.here | ((with_reducible refine' Pk.there ?q); (case q => walk_at "pk")) | ((with_reducible refine' Pk.app ?q); (case q => walk_at "pk")))
local macro_rules | `(tactic| walk_at "pkb") => `(tactic| first | with_reducible exact PkB.here | ((with_reducible refine' PkB.there ?q); (case q => walk_at "pkb")) | ((with_reducible refine' PkB.app ?q); (case q => walk_at "pkb")))
local macro_rules | `(tactic| walk_at "spl") => `(tactic| first | with_reducible exact Spl.nil | ((with_reducible refine' Spl.cons ?h ?t); (case h => walk_at "pk"); (case t => walk_at "spl")) | ((with_reducible refine' Spl.blk ?h ?t); (case h => walk_at "pkb"); (case t => walk_at "spl")))
local macro_rules | `(tactic| walk_at "sbx") => `(tactic| first | with_reducible exact Sb.refl | with_reducible exact Sb.nil | with_reducible exact Sb.left | ((with_reducible refine' Sb.cons ?h ?t); (case h => walk_at "pk"); (case t => walk_at "sbx")) | ((with_reducible refine' Sb.blk ?h ?t); (case h => walk_at "pkb"); (case t => walk_at "sbx")) | ((with_reducible refine' Sb.drop ?q); (case q => walk_at "sbx")) | ((with_reducible refine' Sb.right ?q); (case q => walk_at "sbx")))
local macro_rules | `(tactic| walk_at "hd") => `(tactic| first | assumption | exact Hd.sb (by assumption) (by walk_at "sbx"))
local macro_rules | `(tactic| walk_at "sq") => `(tactic| first
  | assumption
  | exact Hd.sqL (by assumption) (by walk_at "mem")
  | exact Hd.sqT (by assumption) (by walk_at "mem")
  | exact Hd.sqF (by assumption) (by walk_at "mem")
  | (refine .inl ?_; walk_at "sq")
  | (refine .inr ?_; walk_at "sq"))
local macro_rules | `(tactic| walk_at "at") => `(tactic| first | rfl | assumption | exact atI_nat (by assumption))
local macro_rules | `(tactic| walk_at "dn1") => `(tactic| first
  | exact Dn.int | exact Dn.str | exact Dn.non | exact Dn.bl | assumption
  | ((refine' Dn.tp ?a1 ?m1 ?l1 ?p1); (case a1 => assumption); (case m1 => walk_at "mem"); (case l1 => (simp only [List.length_cons, List.length_nil]; omega)); (case p1 => walk_at "dns"))
  | ((refine' Dn.lt ?a1 ?m1 ?l1 ?p1); (case a1 => assumption); (case m1 => walk_at "mem"); (case l1 => (simp only [List.length_cons, List.length_nil]; omega)); (case p1 => walk_at "dns")))
local macro_rules | `(tactic| walk_at "dns") => `(tactic| first | exact Paired.nil | exact Dn.ints | ((refine' Paired.cons ?a1 ?b1); (case a1 => walk_at "dn1"); (case b1 => walk_at "dns")))
local macro_rules | `(tactic| walk_at "g1") => `(tactic| first
  | ((with_reducible refine' g_ixI ?h1 ?h2 ?h3 ?_); (case h1 => assumption); (case h2 => walk_at "mem"); (case h3 => omega); intro z hz)
  | ((with_reducible refine' g_ixIT ?h1 ?h2 ?h3 ?_); (case h1 => assumption); (case h2 => walk_at "mem"); (case h3 => omega); intro z hz)
  | ((with_reducible refine' g_setI ?h1 ?h2 ?h3 ?_); (case h1 => assumption); (case h2 => walk_at "pk"); (case h3 => omega); intro H2 hh2)
  | ((with_reducible refine' w_ixL ?h1 ?h2 ?_); (case h1 => walk_at "sq"); (case h2 => walk_at "at"))
  | ((with_reducible refine' w_ixT ?h1 ?h2 ?_); (case h1 => walk_at "sq"); (case h2 => walk_at "at"))
  | ((with_reducible refine' w_ixAny ?h1 ?h2 ?_); (case h1 => walk_at "sq"); (case h2 => walk_at "at"))
  | ((with_reducible refine' c_lenA ?h1 ?_); (case h1 => walk_at "sq"))
  | ((with_reducible refine' c_isi ?t1 ?k1 ?_); (case t1 => first | exact ty_T (by walk_at "sq") | exact ty_L (by walk_at "sq")); (case k1 => walk_at "kit"))
  | ((with_reducible refine' g_lst ?h1 ?h2 ?_); (case h1 => assumption); (case h2 => walk_at "sz"); intro p H2 hh2)
  | ((with_reducible refine' g_tup ?h1 ?h2 ?_); (case h1 => assumption); (case h2 => walk_at "sz"); intro p H2 hh2)
  | ((with_reducible refine' g_dict ?h1 ?_); (case h1 => assumption); intro p H2 hh2)
  | ((with_reducible refine' g_listL ?h1 ?h2 ?_); (case h1 => assumption); (case h2 => walk_at "sq"); intro p H2 hh2)
  | ((with_reducible refine' g_listT ?h1 ?h2 ?_); (case h1 => assumption); (case h2 => walk_at "sq"); intro p H2 hh2)
  | ((with_reducible refine' g_tupL ?h1 ?h2 ?_); (case h1 => assumption); (case h2 => walk_at "sq"); intro p H2 hh2)
  | ((with_reducible refine' g_set ?h1 ?h2 ?h3 ?_); (case h1 => assumption); (case h2 => walk_at "pk"); (case h3 => first | rfl | assumption | exact Evl.ixN_nat (by first | omega | (simp only [List.length_cons, List.length_nil]; omega))); intro H2 hh2)
  | ((with_reducible refine' g_kbm ?h1 ?h2 ?_); (case h1 => assumption); (case h2 => walk_at "mem"))
  | ((with_reducible refine' g_kbm0 ?h1 ?h2 ?_); (case h1 => assumption); (case h2 => walk_at "mem"))
  | ((with_reducible refine' g_app ?h1 ?h2 ?h3 ?_); (case h1 => assumption); (case h2 => walk_at "pk"); (case h3 => walk_at "sz"); intro H2 hh2)
  | ((with_reducible refine' g_kapp ?h1 ?h2 ?h3 ?_); (case h1 => assumption); (case h2 => walk_at "pk"); (case h3 => walk_at "sz"); intro H2 hh2)
  | ((with_reducible refine' g_fld ?h1 ?h2 ?h3 ?h4 ?h5 ?_); (case h1 => assumption); (case h2 => walk_at "mem"); (case h3 => assumption); (case h4 => assumption); (case h5 => rfl))
  | ((with_reducible refine' g_sfld ?h1 ?h2 ?h3 ?h4 ?h5 ?_); (case h1 => assumption); (case h2 => walk_at "pk"); (case h3 => assumption); (case h4 => assumption); (case h5 => decide); intro H2 hh2)
  | ((with_reducible refine' g_meth ?h1 ?h2 ?h3 ?_); (case h1 => assumption); (case h2 => walk_at "mem"); (case h3 => rfl))
  | ((with_reducible refine' g_prop ?h1 ?h2 ?_); (case h1 => assumption); (case h2 => walk_at "mem"))
  | ((with_reducible refine' g_make ?h1 ?_); (case h1 => assumption); intro x H2 hh2)
  | ((with_reducible refine' g_cat ?h1 ?h2 ?h3 ?h4 ?_); (case h1 => assumption); (case h2 => walk_at "mem"); (case h3 => walk_at "mem"); (case h4 => walk_at "sz"); intro p H2 hh2)
  | ((with_reducible refine' g_inT ?h1 ?h2 ?h3 ?h4 ?h5 ?_); (case h1 => assumption); (case h2 => walk_at "mem"); (case h3 => rfl); (case h4 => rfl); (case h5 => rfl)))
local macro_rules | `(tactic| walk_at "gs") => `(tactic| repeat first | walk_at "s1" | walk_at "g1")
local macro_rules | `(tactic| walk_at "ite") => `(tactic| first
  | ((with_reducible refine' w_iteT ?h1 ?_); (case h1 => omega))
  | ((with_reducible refine' w_iteF ?h1 ?_); (case h1 => omega))
  | (with_reducible refine w_ite ?_ ?_ <;> intro hq)
  | ((with_reducible refine' w_iteNT ?h1 ?_); (case h1 => omega))
  | ((with_reducible refine' w_iteNF ?h1 ?_); (case h1 => omega))
  | (with_reducible refine w_iteN ?_ ?_ <;> intro hq))
local macro_rules | `(tactic| walk_at "go") => `(tactic| repeat' first | walk_at "s1" | walk_at "g1" | walk_at "ite")
local macro_rules | `(tactic| walk_at "g1") => `(tactic| first
  | ((with_reducible refine' g_take1 ?h1 ?h2 ?h3 ?h4 ?_); (case h1 => assumption); (case h2 => walk_at "spl"); (case h3 => omega); (case h4 => omega); intro k H2 hk1 hh2)
  | ((with_reducible refine' g_take ?h1 ?h2 ?h4 ?_); (case h1 => assumption); (case h2 => walk_at "spl"); (case h4 => omega); intro k H2 hk1 hh2)
  | ((with_reducible refine' g_betweenN ?h1 ?h2 ?h5 ?h3 ?h4 ?_); (case h1 => assumption); (case h2 => walk_at "spl"); (case h5 => omega); (case h3 => omega); (case h4 => omega); intro k H2 hk1 hk2 hh2)
  | ((with_reducible refine' g_between ?h1 ?h2 ?h3 ?h4 ?_); (case h1 => assumption); (case h2 => walk_at "spl"); (case h3 => omega); (case h4 => omega); intro k H2 hk1 hk2 hh2)
  | ((with_reducible refine' g_size ?h1 ?h2 ?h3 ?h4 ?_); (case h1 => assumption); (case h2 => walk_at "spl"); (case h3 => omega); (case h4 => omega); intro k H2 hk1 hh2)
  | ((with_reducible refine' g_word ?h1 ?h2 ?_); (case h1 => assumption); (case h2 => walk_at "spl"); intro k H2 hk1 hh2))
local macro_rules | `(tactic| walk_at "g1") => `(tactic| first | with_reducible refine w_sl ?_ | with_reducible refine w_part ?_ | with_reducible refine w_noPart ?_ | with_reducible refine w_exI ?_)
local macro_rules | `(tactic| walk_at "g1") => `(tactic| first | with_reducible refine w_din ?_ | with_reducible refine w_dnotin ?_ | with_reducible refine w_dget ?_ | with_reducible refine w_dput ?_ | with_reducible refine w_ddel ?_ | with_reducible refine w_dpop ?_)
section
variable {P : Program} {w : World} {K : PySem.W.Frag} {mg : Str → Option Value} {base : Heap} {aREG aOPS : Addr}
def optV : Option Nat → V
  | none => .non
  | some l => .int (l : Int)
def leastV (f : Nat → Option Nat) : List V := (List.range 8).map fun j => optV (f j)
theorem least_at {f : Nat → Option Nat} {k : Nat} (h : k < 8) : (leastV f)[k]? = some (optV (f k)) := by
  unfold leastV
  rw [List.getElem?_map, List.getElem?_range h]
  rfl
theorem least_set {f : Nat → Option Nat} {k p : Nat} (h : k < 8) : (leastV f).set k (.int (p : Int)) = leastV (fun j => if j = k then some p else f j) := by
  refine List.ext_getElem? fun j => ?_
  rw [List.getElem?_set]
  by_cases e : k = j
  · subst e
    rw [if_pos rfl, if_pos (by show k < (leastV f).length; unfold leastV; rw [List.length_map, List.length_range]; exact h), least_at h, if_pos rfl]
    rfl
  · rw [if_neg e]
    unfold leastV
    rw [List.getElem?_map, List.getElem?_map]
    cases hj : (List.range 8)[j]? with
    | none => rfl
    | some x =>
      have hx : x = j := by
        have := List.getElem?_eq_some_iff.mp hj
        obtain ⟨h1, h2⟩ := this
        rw [List.getElem_range] at h2
        exact h2.symm
      subst hx
      show some (optV (f x)) = some (optV (if x = k then some p else f x))
      rw [if_neg fun z => e z.symm]
def sp_counted (K : PySem.W.Frag) : Sp := fun vs H Q _ => ∃ (a : Addr) (rs : List LRow) (S : AgS) (xs : List V) (Y R : List Cell), vs = [.ref a] ∧ rs.length ≤ 1000 ∧ LogOf rs S ∧ LogIn K rs xs Y ∧ Hd H (lstC a xs :: (Y ++ R)) ∧
  ∀ t pl H', Hd H' (tupC t [.int ((cAll rs).most : Nat), .ref pl] :: lstC pl (leastV (cAll rs).least) :: lstC a xs :: (Y ++ R)) → Q (.ref t) H'
theorem c_counted (T : Txt K mg aREG aOPS) (d : DefAt K mg "_law_counted" s__law_counted) : C8.Cal P w K mg base 1 "_law_counted" (sp_counted K) [] := by
  refine mk d sc__law_counted (fun _ _ _ _ _ _ us hl => match us, hl with | [_], _ => rfl) (fun vs H Q E h => ?_) (fun fa cdv A outer s H vs Q E hr h => ?_)
  · obtain ⟨a, rs, S, xs, Y, R, rfl, _⟩ := h
    rfl
  · obtain ⟨a, rs, S, xs, Y, R, rfl, hl, hL, hY, hh, q⟩ := h
    have hxl := hY.len (hh.sb (Sb.drop Sb.left))
    refine ⟨_, (pss_cons (ps_set (i := 1) sc__law_counted.nd rfl (Or.inl rfl) (pe_lst pa_nil))
  (pss_cons (ps_set (i := 2) sc__law_counted.nd rfl (Or.inl rfl) pe_int)
  (pss_cons (ps_set (i := 3) sc__law_counted.nd rfl (Or.inl rfl) (pe_op op_rep (pe_lst (pa_cons pe_non pa_nil)) pe_int))
  (pss_cons (ps_for PassesOwn.never rfl (pi_list (pv 0)) (pg_name (i := 4) sc__law_counted.nd rfl (Or.inl rfl))
    (pss_cons (ps_if (pt_cmpR op_eq (pe_ix ix_tup (pv 4) pe_int (fun _ _ => rfl)) pe_str (nomark _))
        (pss_cons (ps_expr (pe_bm PySem.F.plainAttrs_list PySem.F.slot_list_append PySem.F.type_list_append mt_append (pv 1) (pa_cons (pe_ix ix_tup (pv 4) pe_int (fun _ _ => rfl)) pa_nil)))
          (pss_cons (ps_set (i := 2) sc__law_counted.nd rfl (Or.inl rfl) (pe_callB (Wk.b_max rfl) (by rfl) T.b_max (by decide +kernel) (pa_cons (pv 2) (pa_cons (pe_callB Wk.b_len (by rfl) T.b_len (by decide +kernel) (pa_cons (pv 1) pa_nil)) pa_nil))))
          (pss_one (ps_if (PW.pt (pw_or (pt_cmpR op_isN1 (pe_ix ix_list (pv 3) (pe_ix ix_tup (pv 4) pe_int (fun _ _ => rfl)) (fun _ _ => rfl)) pe_non (nomark _)) (pw_or1 (pt_cmpR op_lt (pe_ix ix_tup (pv 4) pe_int (fun _ _ => rfl)) (pe_ix ix_list (pv 3) (pe_ix ix_tup (pv 4) pe_int (fun _ _ => rfl)) (fun _ _ => rfl)) (nomark _)))))
            (pss_one (ps_asg (pe_ix ix_tup (pv 4) pe_int (fun _ _ => rfl)) (pg_sub (pv 3) (pe_ix ix_tup (pv 4) pe_int (fun _ _ => rfl)) set_list)))
            pss_nil))))
        pss_nil)
      (pss_one (ps_if (pt_cmpR op_eq (pe_ix ix_tup (pv 4) pe_int (fun _ _ => rfl)) pe_str (nomark _))
        (pss_one (ps_expr (pe_bm PySem.F.plainAttrs_list PySem.F.slot_list_remove PySem.F.type_list_remove mt_remove (pv 1) (pa_cons (pe_ix ix_tup (pv 4) pe_int (fun _ _ => rfl)) pa_nil))))
        pss_nil))))
  (pss_one (ps_ret (pe_tup (pa_cons (pv 2) (pa_cons (pv 3) pa_nil))))))))), ?_⟩
    walk_at "gs"
    rename_i pm H2 h2 p0 H3 h3
    clear hh h2
    refine g_rep h3 (by walk_at "mem") (by omega) (by omega) (by decide) fun pl H4 h4 => ?_
    have h4 : Hd H4 (lstC pm (natV []) :: lstC pl (leastV fun _ => none) :: lstC a xs :: (Y ++ R)) := Hd.sb (A := lstC pm [] :: lstC pl (leastV fun _ => none) :: lstC a xs :: (Y ++ R)) (hdCast (c' := lstC pl (leastV fun _ => none)) h4 rfl) (by walk_at "sbx")
    clear h3
    walk_at "gs"
    refine l_list (h4.sqL (by walk_at "mem")) (fun i σ H => ∃ (ms : List Nat) (v4 : Option V), σ = [some (.ref a), some (.ref pm), some (.int ((cAll (rs.take i)).most : Nat)), some (.ref pl), v4] ∧ ms.Nodup ∧ (∀ j, j ∈ ms ↔ j < 8 ∧ (cAll (rs.take i)).f j = true) ∧
      Hd H (lstC pm (natV ms) :: lstC pl (leastV (cAll (rs.take i)).least) :: lstC a xs :: (Y ++ R))) ⟨[], _, rfl, List.nodup_nil, fun j => ⟨fun h => (by cases h), fun h => (by cases h.2)⟩, h4⟩ (fun i σ H' _ h => by obtain ⟨_, _, _, _, _, h⟩ := h; exact h.sqL (by walk_at "mem")) ?_ ?_
    · rintro i x σ H5 hx ⟨ms, v4, rfl, hnd, hm, h5⟩
      obtain ⟨r, t, hr', rfl, hs⟩ := hY.at_ hx (h5.sb (by walk_at "sbx"))
      have sq := hs H5 (h5.sb (by walk_at "sbx"))
      have hfit := hL.fits i r hr'
      have hc : cAll (rs.take (i + 1)) = cStep (cAll (rs.take i)) r := fold_snoc hr'
      have hnl := natV_len ms
      have hml : ms.length ≤ 8 := by rw [ms_count hnd hm]; exact Nat.le_trans List.countP_le_length (by rw [List.length_range]; exact Nat.le_refl _)
      clear h4
      rw [hc]
      generalize cAll (rs.take i) = c at hfit hm h5 ⊢
      cases r with
      | enter k p =>
        have sq : SqT K H5 t [V.str (Str.ofString "enter"), V.int (k : Int), V.int (p : Int)] := sq
        obtain ⟨hk8, hp7, hno⟩ := hfit
        have hlk := least_at (f := c.least) hk8
        have hll : (leastV c.least).length = 8 := by unfold leastV; rw [List.length_map, List.length_range]
        walk_at "gs"
        rename_i H6 h6
        have sq6 : SqT K H6 t [V.str (Str.ofString "enter"), V.int (k : Int), V.int (p : Int)] := hs H6 (h6.sb (by walk_at "sbx"))
        have hkm : k ∉ ms := fun z => by rw [((hm k).mp z).2] at hno; cases hno
        have hnd2 : (ms ++ [k]).Nodup := List.nodup_append.mpr ⟨hnd, List.nodup_cons.mpr ⟨List.not_mem_nil, List.nodup_nil⟩, fun x hx y hy e => by rw [List.mem_singleton.mp hy] at e; exact hkm (e ▸ hx)⟩
        have hm2 : ∀ j, j ∈ ms ++ [k] ↔ j < 8 ∧ (decide (j = k) || c.f j) = true := fun j => by
          rw [List.mem_append, List.mem_singleton, hm, Bool.or_eq_true, decide_eq_true_iff]
          constructor
          · rintro (h | rfl)
            · exact ⟨h.1, .inr h.2⟩
            · exact ⟨hk8, .inl rfl⟩
          · rintro ⟨h1, rfl | h2⟩
            · exact .inr rfl
            · exact .inl ⟨h1, h2⟩
        have hmost : (if ((natV ms ++ [V.int (k : Int)]).length : Int) > (c.most : Int) then ((natV ms ++ [V.int (k : Int)]).length : Int) else (c.most : Int)) = ((max c.most ((List.range 8).countP fun j => decide (j = k) || c.f j) : Nat) : Int) := by
          rw [← ms_count hnd2 hm2, List.length_append, List.length_append, hnl]
          show (if ((ms.length + 1 : Nat) : Int) > (c.most : Int) then ((ms.length + 1 : Nat) : Int) else (c.most : Int)) = ((max c.most (ms.length + 1) : Nat) : Int)
          split <;> omega
        rw [hmost]
        have hcat : natV (ms ++ [k]) = natV ms ++ [V.int (k : Int)] := List.map_append
        clear h5
        walk_at "gs"
        cases hl0 : c.least k with
        | none =>
          rw [hl0] at hlk
          walk_at "gs"
          rename_i H7 h7
          have h7 : Hd H7 (lstC pl ((leastV c.least).set k (V.int (p : Int))) :: _) := h7
          rw [least_set hk8] at h7
          have sq7 : SqT K H7 t [V.str (Str.ofString "enter"), V.int (k : Int), V.int (p : Int)] := hs H7 (h7.sb (by walk_at "sbx"))
          clear h6
          walk_at "gs"
          exact ⟨ms ++ [k], _, rfl, hnd2, hm2, by
            rw [hcat, show (cStep c (.enter k p)).least = fun j => if j = k then some (p) else c.least j from funext fun j => by show (if j = k then some (lessO (c.least k) p) else c.least j) = _; rw [hl0]; rfl]
            exact Hd.sb h7 (by walk_at "sbx")⟩
        | some l =>
          rw [hl0] at hlk
          walk_at "gs"
          show rI0 (fun i j => V.bl (decide (i < j))) (V.int (p : Int)) (V.int (l : Int)) H6 _
          walk_at "gs"
          refine w_ite (fun e => ?_) (fun e => ?_)
          · walk_at "gs"
            rename_i H7 h7
            have h7 : Hd H7 (lstC pl ((leastV c.least).set k (V.int (p : Int))) :: _) := h7
            rw [least_set hk8] at h7
            have sq7 : SqT K H7 t [V.str (Str.ofString "enter"), V.int (k : Int), V.int (p : Int)] := hs H7 (h7.sb (by walk_at "sbx"))
            clear h6
            walk_at "gs"
            exact ⟨ms ++ [k], _, rfl, hnd2, hm2, by
              rw [hcat, show (cStep c (.enter k p)).least = fun j => if j = k then some (p) else c.least j from funext fun j => by show (if j = k then some (lessO (c.least k) p) else c.least j) = _; rw [hl0]; show (if j = k then some (if p < l then p else l) else c.least j) = _; rw [show (if p < l then p else l) = p from if_pos (by omega)]]
              exact Hd.sb h7 (by walk_at "sbx")⟩
          · walk_at "gs"
            exact ⟨ms ++ [k], _, rfl, hnd2, hm2, by
              rw [hcat, show (cStep c (.enter k p)).least = c.least from funext fun j => by
                show (if j = k then some (lessO (c.least k) p) else c.least j) = c.least j
                rw [hl0]
                show (if j = k then some (if p < l then p else l) else c.least j) = c.least j
                rw [if_neg (show ¬ p < l by omega)]
                by_cases z : j = k
                · rw [if_pos z, z, hl0]
                · rw [if_neg z]]
              exact Hd.sb h6 (by walk_at "sbx")⟩
      | leave k =>
        have sq : SqT K H5 t [V.str (Str.ofString "leave"), V.int (k : Int)] := sq
        walk_at "gs"
        refine g_rem h5 (by walk_at "pk") ((hm k).mpr hfit) hnd fun j H6 hj h6 => ?_
        exact ⟨ms.eraseIdx j, _, rfl, hnd.sublist (List.eraseIdx_sublist ..), fun x => by
          rw [mem_erased hnd hj, hm]
          show _ ↔ x < 8 ∧ (!decide (x = k) && c.f x) = true
          rw [Bool.and_eq_true, Bool.not_eq_true', decide_eq_false_iff_not]
          exact ⟨fun h => ⟨h.2.1, h.1, h.2.2⟩, fun h => ⟨h.2.1, h.1, h.2.2⟩⟩, h6⟩
      | pick w =>
        cases w with
        | none =>
          have sq : SqT K H5 t [V.str (Str.ofString "pick"), V.non] := sq
          walk_at "gs"
          exact ⟨ms, _, rfl, hnd, hm, h5⟩
        | some q' =>
          have sq : SqT K H5 t [V.str (Str.ofString "pick"), V.int (q' : Int)] := sq
          walk_at "gs"
          exact ⟨ms, _, rfl, hnd, hm, h5⟩
      | wake k =>
        have sq : SqT K H5 t [V.str (Str.ofString "wake"), V.int (k : Int)] := sq
        walk_at "gs"
        exact ⟨ms, _, rfl, hnd, hm, h5⟩
      | sleep k =>
        have sq : SqT K H5 t [V.str (Str.ofString "sleep"), V.int (k : Int)] := sq
        walk_at "gs"
        exact ⟨ms, _, rfl, hnd, hm, h5⟩
      | lend k p =>
        have sq : SqT K H5 t [V.str (Str.ofString "lend"), V.int (k : Int), V.int (p : Int)] := sq
        walk_at "gs"
        exact ⟨ms, _, rfl, hnd, hm, h5⟩
    · rintro σ H5 ⟨ms, v4, rfl, hnd, hm, h5⟩
      rw [hxl, List.take_length] at h5
      walk_at "gs"
      rename_i t H6 h6
      rw [hxl, List.take_length] at h6
      exact q t pl H6 (Hd.sb h6 (by walk_at "sbx"))
end
end K24
set_option Elab.async false
set_option linter.all false
set_option maxRecDepth 100000
set_option maxHeartbeats 4000000
namespace K24
open PySem PySem.Spec PyProof.Rows L2 Wk
local macro_rules | `(tactic| walk_at "u1") => `(tactic| fail "no more")
local macro_rules | `(tactic| walk_at "pos") => `(tactic| first | assumption | omega | decide | (simp only [Int.ofNat_eq_natCast] at *; omega))
local macro_rules | `(tactic| walk_at "sz") => `(tactic| first
  | (simp only [List.length_cons, List.length_nil]; decide)
  | exact Evl.sz_of (by omega)
  | exact Evl.sz_lt (by omega)
  | exact Evl.sz_of (by simp only [List.length_map, List.length_append, List.length_cons, List.length_nil, List.length_replicate]; omega)
  | exact Evl.sz_lt (by simp only [List.length_map, List.length_append, List.length_cons, List.length_nil, List.length_replicate]; omega))
local macro_rules | `(tactic| walk_at "cond") => `(tactic| first
  | exact Or.inr ⟨by decide, by decide⟩
  | (show (0 : Int) < _; first | decide | assumption | omega)
  | exact Or.inl ⟨by omega, by omega⟩
  | exact Or.inr ⟨by omega, by omega⟩
  | exact ⟨by decide, by decide, by decide⟩
  | exact log2_lt (by omega) (by omega)
  | exact ⟨by omega, by omega⟩)
local macro_rules | `(tactic| walk_at "ty") => `(tactic| first
  | exact ty_int | exact ty_bl | exact ty_str | exact ty_non
  | exact ty_L (by assumption) | exact ty_T (by assumption)
  | exact ty_L (SqL.of (by assumption)) | exact ty_T (SqT.of (by assumption)))
local macro_rules | `(tactic| walk_at "kit") => `(tactic| first
  | exact k_ii | exact k_ib | exact k_is | exact k_il | exact k_it
  | exact k_bb | exact k_bi | exact k_bs | exact k_bl | exact k_bt
  | exact k_ss | exact k_sb | exact k_si | exact k_sl | exact k_st
  | exact k_ll | exact k_lb | exact k_li | exact k_ls | exact k_lt
  | exact k_tt | exact k_tb | exact k_ti | exact k_ts | exact k_tl
  | exact k_nn | exact k_ni | exact k_ns | exact k_nl | exact k_nt)
local macro_rules | `(tactic| walk_at "s1") => `(tactic| first
  | with_reducible refine w_seq ?_
  | with_reducible refine w_set ?_
  | with_reducible refine w_op ?_
  | ((with_reducible refine' w_var ?h1 ?_); (case h1 => rfl))
  | with_reducible refine w_c ?_
  | with_reducible refine w_cb ?_
  | with_reducible refine w_cons ?_
  | with_reducible refine w_nil ?_
  | with_reducible refine w_I0 ?_
  | ((with_reducible refine' w_I ?c1 ?_); case c1 => walk_at "cond")
  | with_reducible refine w_ret ?_
  | with_reducible refine w_next ?_
  | with_reducible refine w_ifS ?_
  | with_reducible refine w_test ?_
  | with_reducible refine w_tB ?_
  | with_reducible refine w_k ?_
  | with_reducible refine w_eqI ?_
  | with_reducible refine w_neI ?_
  | with_reducible refine w_eqS ?_
  | with_reducible refine w_neS ?_
  | with_reducible refine w_and ?_
  | with_reducible refine w_or ?_
  | with_reducible refine w_not ?_
  | with_reducible refine w_andV ?_
  | with_reducible refine w_orV ?_
  | with_reducible refine w_notV ?_
  | with_reducible refine w_ifE ?_
  | with_reducible refine w_true ?_
  | with_reducible refine w_false ?_
  | with_reducible refine w_ntrue ?_
  | with_reducible refine w_nfalse ?_
  | with_reducible refine w_call ?_
  | with_reducible refine c_int ?_
  | with_reducible refine c_abs ?_
  | with_reducible refine c_max ?_
  | with_reducible refine c_min ?_
  | with_reducible refine w_drop ?_
  | with_reducible refine w_sfld ?_
  | with_reducible refine w_meth ?_
  | with_reducible refine w_make ?_
  | with_reducible refine w_prop ?_
  | with_reducible refine w_callK ?_
  | with_reducible refine w_callN ?_
  | with_reducible refine w_star ?_
  | with_reducible refine w_gcons ?_
  | with_reducible refine w_gname ?_
  | with_reducible refine w_gnil ?_
  | with_reducible refine w_retN ?_
  | with_reducible refine w_tup ?_
  | with_reducible refine w_lst ?_
  | with_reducible refine w_fld ?_
  | with_reducible refine w_bm ?_
  | with_reducible refine w_bm0 ?_
  | with_reducible refine w_forL ?_
  | with_reducible refine w_forT ?_
  | with_reducible refine w_forS ?_
  | with_reducible refine w_forR ?_
  | with_reducible refine w_lcR ?_
  | with_reducible refine w_lcL ?_
  | with_reducible refine w_lcT ?_
  | with_reducible refine w_isN ?_
  | with_reducible refine w_notN ?_
  | with_reducible refine w_asg ?_
  | with_reducible refine w_gsub ?_
  | ((with_reducible refine' w_aug ?h1 ?_); (case h1 => rfl))
  | with_reducible refine w_augS ?_
  | with_reducible refine w_ipI ?_
  | with_reducible refine w_un ?_
  | with_reducible refine w_U ?_
  | ((with_reducible refine' w_iteF ?f1 ?_); case f1 => (first | (intro h; cases h; done) | decide))
  | ((with_reducible refine' w_iteT ?f1 ?_); case f1 => rfl)
  | ((with_reducible refine' w_iteNF ?f1 ?_); case f1 => rfl)
  | ((with_reducible refine' w_iteNT ?f1 ?_); case f1 => (first | (intro h; cases h; done) | decide))
  | ((with_reducible refine' c_isi ?t1 ?k1 ?_); (case t1 => walk_at "ty"); (case k1 => walk_at "kit"))
  | ((with_reducible refine' w_eq ?e1 ?_); case e1 => rfl)
  | ((with_reducible refine' w_ne ?e1 ?_); case e1 => rfl)
  | walk_at "u1")
local macro_rules | `(tactic| walk_at "s") => `(tactic| repeat walk_at "s1")
local macro_rules | `(tactic| walk_at "mem") => `(tactic| first | with_reducible exact List.mem_cons_self .. | ((with_reducible refine' List.mem_cons_of_mem _ ?q); (case q => walk_at "mem")) | assumption | ((with_reducible refine' List.mem_append_right _ ?q); (case q => walk_at "mem")) | (exact List.mem_append_left _ (by assumption)))
local macro_rules | `(tactic| walk_at "pk") => `(tactic| first | with_reducible exact Pk.here | ((with_reducible refine' Pk.there ?q); (case q => walk_at "pk")) | ((with_reducible refine' Pk.app ?q); (case q => walk_at "pk")))
local macro_rules | `(tactic| walk_at "pkb") => `(tactic| first | with_reducible exact PkB.here | ((with_reducible refine' PkB.there ?q); (case q => walk_at "pkb")) | ((with_reducible refine' PkB.app ?q); (case q => walk_at "pkb")))
local macro_rules | `(tactic| walk_at "spl") => `(tactic| first | with_reducible exact Spl.nil | ((with_reducible refine' Spl.cons ?h ?t); (case h => walk_at "pk"); (case t => walk_at "spl")) | ((with_reducible refine' Spl.blk ?h ?t); (case h => walk_at "pkb"); (case t => walk_at "spl")))
local macro_rules | `(tactic| walk_at "sbx") => `(tactic| first | with_reducible exact Sb.refl | with_reducible exact Sb.nil | with_reducible exact Sb.left | ((with_reducible refine' Sb.cons ?h ?t); (case h => walk_at "pk"); (case t => walk_at "sbx")) | ((with_reducible refine' Sb.blk ?h ?t); (case h => walk_at "pkb"); (case t => walk_at "sbx")) | ((with_reducible refine' Sb.drop ?q); (case q => walk_at "sbx")) | ((with_reducible refine' Sb.right ?q); (case q => walk_at "sbx")))
local macro_rules | `(tactic| walk_at "hd") => `(tactic| first | assumption | exact Hd.sb (by assumption) (by walk_at "sbx"))
local macro_rules | `(tactic| walk_at "sq") => `(tactic| first
  | assumption
  | exact Hd.sqL (by assumption) (by walk_at "mem")
  | exact Hd.sqT (by assumption) (by walk_at "mem")
  | exact Hd.sqF (by assumption) (by walk_at "mem")
  | (refine .inl ?_; walk_at "sq")
  | (refine .inr ?_; walk_at "sq"))
local macro_rules | `(tactic| walk_at "at") => `(tactic| first | rfl | assumption | exact atI_nat (by assumption))
local macro_rules | `(tactic| walk_at "dn1") => `(tactic| first
  | exact Dn.int | exact Dn.str | exact Dn.non | exact Dn.bl | assumption
  | ((refine' Dn.tp ?a1 ?m1 ?l1 ?p1); (case a1 => assumption); (case m1 => walk_at "mem"); (case l1 => (simp only [List.length_cons, List.length_nil]; omega)); (case p1 => walk_at "dns"))
  | ((refine' Dn.lt ?a1 ?m1 ?l1 ?p1); (case a1 => assumption); (case m1 => walk_at "mem"); (case l1 => (simp only [List.length_cons, List.length_nil]; omega)); (case p1 => walk_at "dns")))
local macro_rules | `(tactic| walk_at "dns") => `(tactic| first | exact Paired.nil | exact Dn.ints | ((refine' Paired.cons ?a1 ?b1); (case a1 => walk_at "dn1"); (case b1 => walk_at "dns")))
local macro_rules | `(tactic| walk_at "g1") => `(tactic| first
  | ((with_reducible refine' g_ixI ?h1 ?h2 ?h3 ?_); (case h1 => assumption); (case h2 => walk_at "mem"); (case h3 => omega); intro z hz)
  | ((with_reducible refine' g_ixIT ?h1 ?h2 ?h3 ?_); (case h1 => assumption); (case h2 => walk_at "mem"); (case h3 => omega); intro z hz)
  | ((with_reducible refine' g_setI ?h1 ?h2 ?h3 ?_); (case h1 => assumption); (case h2 => walk_at "pk"); (case h3 => omega); intro H2 hh2)
  | ((with_reducible refine' w_ixL ?h1 ?h2 ?_); (case h1 => walk_at "sq"); (case h2 => walk_at "at"))
  | ((with_reducible refine' w_ixT ?h1 ?h2 ?_); (case h1 => walk_at "sq"); (case h2 => walk_at "at"))
  | ((with_reducible refine' w_ixAny ?h1 ?h2 ?_); (case h1 => walk_at "sq"); (case h2 => walk_at "at"))
  | ((with_reducible refine' c_lenA ?h1 ?_); (case h1 => walk_at "sq"))
  | ((with_reducible refine' c_isi ?t1 ?k1 ?_); (case t1 => first | exact ty_T (by walk_at "sq") | exact ty_L (by walk_at "sq")); (case k1 => walk_at "kit"))
  | ((with_reducible refine' g_lst ?h1 ?h2 ?_); (case h1 => assumption); (case h2 => walk_at "sz"); intro p H2 hh2)
  | ((with_reducible refine' g_tup ?h1 ?h2 ?_); (case h1 => assumption); (case h2 => walk_at "sz"); intro p H2 hh2)
  | ((with_reducible refine' g_dict ?h1 ?_); (case h1 => assumption); intro p H2 hh2)
  | ((with_reducible refine' g_listL ?h1 ?h2 ?_); (case h1 => assumption); (case h2 => walk_at "sq"); intro p H2 hh2)
  | ((with_reducible refine' g_listT ?h1 ?h2 ?_); (case h1 => assumption); (case h2 => walk_at "sq"); intro p H2 hh2)
  | ((with_reducible refine' g_tupL ?h1 ?h2 ?_); (case h1 => assumption); (case h2 => walk_at "sq"); intro p H2 hh2)
  | ((with_reducible refine' g_set ?h1 ?h2 ?h3 ?_); (case h1 => assumption); (case h2 => walk_at "pk"); (case h3 => first | rfl | assumption | exact Evl.ixN_nat (by first | omega | (simp only [List.length_cons, List.length_nil]; omega))); intro H2 hh2)
  | ((with_reducible refine' g_kbm ?h1 ?h2 ?_); (case h1 => assumption); (case h2 => walk_at "mem"))
  | ((with_reducible refine' g_kbm0 ?h1 ?h2 ?_); (case h1 => assumption); (case h2 => walk_at "mem"))
  | ((with_reducible refine' g_app ?h1 ?h2 ?h3 ?_); (case h1 => assumption); (case h2 => walk_at "pk"); (case h3 => walk_at "sz"); intro H2 hh2)
  | ((with_reducible refine' g_kapp ?h1 ?h2 ?h3 ?_); (case h1 => assumption); (case h2 => walk_at "pk"); (case h3 => walk_at "sz"); intro H2 hh2)
  | ((with_reducible refine' g_fld ?h1 ?h2 ?h3 ?h4 ?h5 ?_); (case h1 => assumption); (case h2 => walk_at "mem"); (case h3 => assumption); (case h4 => assumption); (case h5 => rfl))
  | ((with_reducible refine' g_sfld ?h1 ?h2 ?h3 ?h4 ?h5 ?_); (case h1 => assumption); (case h2 => walk_at "pk"); (case h3 => assumption); (case h4 => assumption); (case h5 => decide); intro H2 hh2)
  | ((with_reducible refine' g_meth ?h1 ?h2 ?h3 ?_); (case h1 => assumption); (case h2 => walk_at "mem"); (case h3 => rfl))
  | ((with_reducible refine' g_prop ?h1 ?h2 ?_); (case h1 => assumption); (case h2 => walk_at "mem"))
  | ((with_reducible refine' g_make ?h1 ?_); (case h1 => assumption); intro x H2 hh2)
  | ((with_reducible refine' g_cat ?h1 ?h2 ?h3 ?h4 ?_); (case h1 => assumption); (case h2 => walk_at "mem"); (case h3 => walk_at "mem"); (case h4 => walk_at "sz"); intro p H2 hh2)
  | ((with_reducible refine' g_inT ?h1 ?h2 ?h3 ?h4 ?h5 ?_); (case h1 => assumption); (case h2 => walk_at "mem"); (case h3 => rfl); (case h4 => rfl); (case h5 => rfl)))
local macro_rules | `(tactic| walk_at "gs") => `(tactic| repeat first | walk_at "s1" | walk_at "g1")
local macro_rules | `(tactic| walk_at "ite") => `(tactic| first
  | ((with_reducible refine' w_iteT ?h1 ?_); (case h1 => omega))
  | ((with_reducible refine' w_iteF ?h1 ?_); (case h1 => omega))
  | (with_reducible refine w_ite ?_ ?_ <;> intro hq)
  | ((with_reducible refine' w_iteNT ?h1 ?_); (case h1 => omega))
  | ((with_reducible refine' w_iteNF ?h1 ?_); (case h1 => omega))
  | (with_reducible refine w_iteN ?_ ?_ <;> intro hq))
local macro_rules | `(tactic| walk_at "go") => `(tactic| repeat' first | walk_at "s1" | walk_at "g1" | walk_at "ite")
local macro_rules | `(tactic| walk_at "g1") => `(tactic| first
  | ((with_reducible refine' g_take1 ?h1 ?h2 ?h3 ?h4 ?_); (case h1 => assumption); (case h2 => walk_at "spl"); (case h3 => omega); (case h4 => omega); intro k H2 hk1 hh2)
  | ((with_reducible refine' g_take ?h1 ?h2 ?h4 ?_); (case h1 => assumption); (case h2 => walk_at "spl"); (case h4 => omega); intro k H2 hk1 hh2)
  | ((with_reducible refine' g_betweenN ?h1 ?h2 ?h5 ?h3 ?h4 ?_); (case h1 => assumption); (case h2 => walk_at "spl"); (case h5 => omega); (case h3 => omega); (case h4 => omega); intro k H2 hk1 hk2 hh2)
  | ((with_reducible refine' g_between ?h1 ?h2 ?h3 ?h4 ?_); (case h1 => assumption); (case h2 => walk_at "spl"); (case h3 => omega); (case h4 => omega); intro k H2 hk1 hk2 hh2)
  | ((with_reducible refine' g_size ?h1 ?h2 ?h3 ?h4 ?_); (case h1 => assumption); (case h2 => walk_at "spl"); (case h3 => omega); (case h4 => omega); intro k H2 hk1 hh2)
  | ((with_reducible refine' g_word ?h1 ?h2 ?_); (case h1 => assumption); (case h2 => walk_at "spl"); intro k H2 hk1 hh2))
local macro_rules | `(tactic| walk_at "g1") => `(tactic| first | with_reducible refine w_sl ?_ | with_reducible refine w_part ?_ | with_reducible refine w_noPart ?_ | with_reducible refine w_exI ?_)
local macro_rules | `(tactic| walk_at "g1") => `(tactic| first | with_reducible refine w_din ?_ | with_reducible refine w_dnotin ?_ | with_reducible refine w_dget ?_ | with_reducible refine w_dput ?_ | with_reducible refine w_ddel ?_ | with_reducible refine w_dpop ?_)
section
variable {P : Program} {w : World} {K : PySem.W.Frag} {mg : Str → Option Value} {base : Heap} {aREG aOPS : Addr}
theorem mod_inj {n m i j : Nat} (hi : i < m) (hj : j < m) (h : (n + i) % m = (n + j) % m) : i = j := by
  have h1 := Nat.sub_mod_eq_zero_of_mod_eq h
  have h2 := Nat.sub_mod_eq_zero_of_mod_eq h.symm
  rw [show n + i - (n + j) = i - j by omega, Nat.mod_eq_of_lt (by omega)] at h1
  rw [show n + j - (n + i) = j - i by omega, Nat.mod_eq_of_lt (by omega)] at h2
  omega
/-- one of these places is not taken -/
theorem some_free {n m : Nat} {xs : List Nat} (hl : xs.length < m) (h : ∀ j, j < xs.length + 1 → (n + j) % m ∈ xs) : False := by
  have nd : ((List.range (xs.length + 1)).map fun j => (n + j) % m).Nodup := by
    rw [List.nodup_iff_pairwise_ne, List.pairwise_map]
    refine List.Pairwise.imp_of_mem ?_ (List.nodup_iff_pairwise_ne.mp List.nodup_range)
    intro a b ha hb hab e
    exact hab (mod_inj (Nat.lt_of_lt_of_le (List.mem_range.mp ha) hl) (Nat.lt_of_lt_of_le (List.mem_range.mp hb) hl) e)
  have sub : ((List.range (xs.length + 1)).map fun j => (n + j) % m) ⊆ xs := fun x hx => by
    obtain ⟨j, hj, rfl⟩ := List.mem_map.mp hx
    exact h j (List.mem_range.mp hj)
  have := List.Nodup.length_le_of_subset nd sub
  rw [List.length_map, List.length_range] at this
  omega
def sp_freshN (K : PySem.W.Frag) : Sp := fun vs H Q _ => ∃ (n m : Nat) (a : Addr) (xs : List Nat), vs = [.int n, .ref a, .int m] ∧ n < m ∧ m ≤ 1000 ∧ xs.length < m ∧ SqL K H a (natV xs) ∧ ∀ p : Nat, p < m → p ∉ xs → Q (.int p) H
theorem c_freshN (T : Txt K mg aREG aOPS) (d : DefAt K mg "_law_fresh" s__law_fresh) : C8.Cal P w K mg base 1 "_law_fresh" (sp_freshN K) [] := by
  refine mk d sc__law_fresh (fun _ _ _ _ _ _ us hl => match us, hl with | [_, _, _], _ => rfl) (fun vs H Q E h => ?_) (fun f cdv A outer s H vs Q E hr h => ?_)
  · obtain ⟨n, m, a, xs, rfl, _⟩ := h
    rfl
  · obtain ⟨n, m, a, xs, rfl, hn, hm, hx, hs, q⟩ := h
    refine ⟨_, (pss_cons (ps_for PassesOwn.never rfl (pi_range1 rfl T.b_range (pa_cons (pe_op op_add (pe_callB Wk.b_len (by rfl) T.b_len (by decide +kernel) (pa_cons (pv 1) pa_nil)) pe_int) pa_nil)) (pg_name (i := 3) sc__law_fresh.nd rfl (Or.inl rfl))
    (pss_cons (ps_set (i := 4) sc__law_fresh.nd rfl (Or.inl rfl) (pe_op op_mod (pe_callTy Wk.b_int (by rfl) T.b_int (by decide +kernel) (pa_cons (pe_op op_add (pv 0) (pv 3)) pa_nil)) (pv 2)))
      (pss_one (ps_if (pt_cmpR op_notIn_seq (pv 4) (pv 1) (by rfl))
        (pss_one (ps_ret (pv 4)))
        pss_nil))))
  (pss_one (ps_ret (pv 0)))), ?_⟩
    walk_at "gs"
    refine l_range (m := xs.length + 1) (by rw [natV_len]; rfl) (by omega) (fun i σ H' => H' = H ∧ (∀ j, j < i → (n + j) % m ∈ xs) ∧ ∃ v3 v4 : Option V, σ = [some (.int n), some (.ref a), some (.int m), v3, v4]) ⟨rfl, fun j hj => absurd hj (Nat.not_lt_zero _), _, _, rfl⟩ ?_ ?_
    · rintro i σ H' hi ⟨rfl, hall, v3, v4, rfl⟩
      have e : ((n : Int) + (i : Int)) % (m : Int) = (((n + i) % m : Nat) : Int) := by push_cast; rfl
      walk_at "gs"
      rw [e]
      refine w_nin hs rfl (natV_flat xs) inV_nat ?_
      walk_at "gs"
      refine w_iteN (fun hin => ?_) (fun hin => ?_)
      · walk_at "gs"
        exact q _ (Nat.mod_lt _ (by omega)) hin
      · walk_at "gs"
        refine ⟨rfl, fun j hj => ?_, _, _, rfl⟩
        by_cases e2 : j = i
        · rw [e2]; exact hin
        · exact hall j (by omega)
    · rintro σ H' ⟨rfl, hall, v3, v4, rfl⟩
      exact (some_free hx hall).elim
def sp_distN (K : PySem.W.Frag) : Sp := fun vs H Q _ => ∃ (st c : Addr) (n : Nat) (R : List Cell), vs = [.ref st, .int 8, .int n] ∧ 0 < n ∧ n ≤ 8 ∧ Hd H (stoC st c :: scrC c :: R) ∧ ∀ p (xs : List Nat) H', xs.length = n → xs.Nodup → (∀ k ∈ xs, k < 8) → Hd H' (lstC p (natV xs) :: stoC st c :: scrC c :: R) → Q (.ref p) H'
theorem c_distN (T : Txt K mg aREG aOPS) (d : DefAt K mg "_law_distinct" s__law_distinct) (c__law_take : C8.Cal P w K mg base 2 "_law_take" sp_take []) (c__law_fresh : C8.Cal P w K mg base 1 "_law_fresh" (sp_freshN K) []) : C8.Cal P w K mg base 3 "_law_distinct" (sp_distN K) [] := by
  refine mk d sc__law_distinct (fun _ _ _ _ _ _ us hl => match us, hl with | [_, _, _], _ => rfl) (fun vs H Q E h => ?_) (fun f cdv A outer s H vs Q E hr h => ?_)
  · obtain ⟨st, c, n, R, rfl, _⟩ := h
    rfl
  · obtain ⟨st, c, n, R, rfl, h0, h8, hh, q⟩ := h
    refine ⟨_, (pss_cons (ps_set (i := 3) sc__law_distinct.nd rfl (Or.inl rfl) (pe_lst pa_nil))
  (pss_cons (ps_for PassesOwn.never rfl (pi_range1 rfl T.b_range (pa_cons (pe_callB (Wk.b_min rfl) (by rfl) T.b_min (by decide +kernel) (pa_cons (pv 2) (pa_cons (pv 1) pa_nil))) pa_nil)) (pg_name (i := 4) sc__law_distinct.nd rfl (Or.inl rfl))
    (pss_one (ps_expr (pe_bm PySem.F.plainAttrs_list PySem.F.slot_list_append PySem.F.type_list_append mt_append (pv 3) (pa_cons (C8.pe_c c__law_fresh hr (by first | decide | omega) rfl (pa_cons (C8.pe_c c__law_take hr (by first | decide | omega) rfl (pa_cons (pv 0) (pa_cons (pv 1) pa_nil))) (pa_cons (pv 3) (pa_cons (pv 1) pa_nil)))) pa_nil)))))
  (pss_one (ps_ret (pv 3))))), ?_⟩
    walk_at "gs"
    rename_i p H2 h2
    refine l_range (m := n) (by split <;> omega) (by omega) (fun i σ H => ∃ (xs : List Nat) (v4 : Option V), σ = [some (.ref st), some (.int 8), some (.int n), some (.ref p), v4] ∧ xs.length = i ∧ i ≤ n ∧ xs.Nodup ∧ (∀ k ∈ xs, k < 8) ∧ Hd H (lstC p (natV xs) :: stoC st c :: scrC c :: R)) ⟨[], _, rfl, rfl, by omega, List.nodup_nil, fun k hk => (List.not_mem_nil hk).elim, h2⟩ ?_ ?_
    · rintro i σ H3 hi ⟨xs, v4, rfl, hl, _, hnd, hk, h3⟩
      walk_at "gs"
      rename_i kk H4 hkk h4
      have h5 : Hd H4 (lstC p (natV xs) :: stoC st c :: scrC c :: R) := Hd.sb h4 (by walk_at "sbx")
      clear h3 h4
      have hnl := natV_len xs
      refine ⟨kk, 8, p, xs, rfl, by omega, by decide, by omega, h5.sqL (List.mem_cons_self ..), fun r hr8 hrn => ?_⟩
      walk_at "gs"
      rename_i H6 h6
      refine ⟨xs ++ [r], _, rfl, by rw [List.length_append, hl]; rfl, by omega, List.nodup_append.mpr ⟨hnd, List.nodup_cons.mpr ⟨List.not_mem_nil, List.nodup_nil⟩, fun a ha b hb e => by rw [List.mem_singleton.mp hb] at e; exact hrn (e ▸ ha)⟩, fun k hk' => (List.mem_append.mp hk').elim (hk k) fun e => by rw [List.mem_singleton.mp e]; exact hr8, ?_⟩
      rw [show natV (xs ++ [r]) = natV xs ++ [V.int (r : Int)] from List.map_append]
      exact h6
    · rintro σ H3 ⟨xs, v4, rfl, hl, _, hnd, hk, h3⟩
      walk_at "gs"
      exact q p xs H3 hl hnd hk h3
end
end K24
set_option Elab.async false
set_option linter.all false
set_option maxRecDepth 100000
set_option maxHeartbeats 4000000
namespace K24
open PySem PySem.Spec PyProof.Rows L2 Wk
local macro_rules | `(tactic| walk_at "u1") => `(tactic| fail "no more")
local macro_rules | `(tactic| walk_at "pos") => `(tactic| first | assumption | omega | decide | (simp only [Int.ofNat_eq_natCast] at *; omega))
local macro_rules | `(tactic| walk_at "sz") => `(tactic| first
  | (simp only [List.length_cons, List.length_nil]; decide)
  | exact Evl.sz_of (by omega)
  | exact Evl.sz_lt (by omega)
  | exact Evl.sz_of (by simp only [List.length_map, List.length_append, List.length_cons, List.length_nil, List.length_replicate]; omega)
  | exact Evl.sz_lt (by simp only [List.length_map, List.length_append, List.length_cons, List.length_nil, List.length_replicate]; omega))
local macro_rules | `(tactic| walk_at "cond") => `(tactic| first
  | exact Or.inr ⟨by decide, by decide⟩
  | (show (0 : Int) < _; first | decide | assumption | omega)
  | exact Or.inl ⟨by omega, by omega⟩
  | exact Or.inr ⟨by omega, by omega⟩
  | exact ⟨by decide, by decide, by decide⟩
  | exact log2_lt (by omega) (by omega)
  | exact ⟨by omega, by omega⟩)
local macro_rules | `(tactic| walk_at "ty") => `(tactic| first
  | exact ty_int | exact ty_bl | exact ty_str | exact ty_non
  | exact ty_L (by assumption) | exact ty_T (by assumption)
  | exact ty_L (SqL.of (by assumption)) | exact ty_T (SqT.of (by assumption)))
local macro_rules | `(tactic| walk_at "kit") => `(tactic| first
  | exact k_ii | exact k_ib | exact k_is | exact k_il | exact k_it
  | exact k_bb | exact k_bi | exact k_bs | exact k_bl | exact k_bt
  | exact k_ss | exact k_sb | exact k_si | exact k_sl | exact k_st
  | exact k_ll | exact k_lb | exact k_li | exact k_ls | exact k_lt
  | exact k_tt | exact k_tb | exact k_ti | exact k_ts | exact k_tl
  | exact k_nn | exact k_ni | exact k_ns | exact k_nl | exact k_nt)
local macro_rules | `(tactic| walk_at "s1") => `(tactic| first
  | with_reducible refine w_seq ?_
  | with_reducible refine w_set ?_
  | with_reducible refine w_op ?_
  | ((with_reducible refine' w_var ?h1 ?_); (case h1 => rfl))
  | with_reducible refine w_c ?_
  | with_reducible refine w_cb ?_
  | with_reducible refine w_cons ?_
  | with_reducible refine w_nil ?_
  | with_reducible refine w_I0 ?_
  | ((with_reducible refine' w_I ?c1 ?_); case c1 => walk_at "cond")
  | with_reducible refine w_ret ?_
  | with_reducible refine w_next ?_
  | with_reducible refine w_ifS ?_
  | with_reducible refine w_test ?_
  | with_reducible refine w_tB ?_
  | with_reducible refine w_k ?_
  | with_reducible refine w_eqI ?_
  | with_reducible refine w_neI ?_
  | with_reducible refine w_eqS ?_
  | with_reducible refine w_neS ?_
  | with_reducible refine w_and ?_
  | with_reducible refine w_or ?_
  | with_reducible refine w_not ?_
  | with_reducible refine w_andV ?_
  | with_reducible refine w_orV ?_
  | with_reducible refine w_notV ?_
  | with_reducible refine w_ifE ?_
  | with_reducible refine w_true ?_
  | with_reducible refine w_false ?_
  | with_reducible refine w_ntrue ?_
  | with_reducible refine w_nfalse ?_
  | with_reducible refine w_call ?_
  | with_reducible refine c_int ?_
  | with_reducible refine c_abs ?_
  | with_reducible refine c_max ?_
  | with_reducible refine c_min ?_
  | with_reducible refine w_drop ?_
  | with_reducible refine w_sfld ?_
  | with_reducible refine w_meth ?_
  | with_reducible refine w_make ?_
  | with_reducible refine w_prop ?_
  | with_reducible refine w_callK ?_
  | with_reducible refine w_callN ?_
  | with_reducible refine w_star ?_
  | with_reducible refine w_gcons ?_
  | with_reducible refine w_gname ?_
  | with_reducible refine w_gnil ?_
  | with_reducible refine w_retN ?_
  | with_reducible refine w_tup ?_
  | with_reducible refine w_lst ?_
  | with_reducible refine w_fld ?_
  | with_reducible refine w_bm ?_
  | with_reducible refine w_bm0 ?_
  | with_reducible refine w_forL ?_
  | with_reducible refine w_forT ?_
  | with_reducible refine w_forS ?_
  | with_reducible refine w_forR ?_
  | with_reducible refine w_lcR ?_
  | with_reducible refine w_lcL ?_
  | with_reducible refine w_lcT ?_
  | with_reducible refine w_isN ?_
  | with_reducible refine w_notN ?_
  | with_reducible refine w_asg ?_
  | with_reducible refine w_gsub ?_
  | ((with_reducible refine' w_aug ?h1 ?_); (case h1 => rfl))
  | with_reducible refine w_augS ?_
  | with_reducible refine w_ipI ?_
  | with_reducible refine w_un ?_
  | with_reducible refine w_U ?_
  | ((with_reducible refine' w_iteF ?f1 ?_); case f1 => (first | (intro h; cases h; done) | decide))
  | ((with_reducible refine' w_iteT ?f1 ?_); case f1 => rfl)
  | ((with_reducible refine' w_iteNF ?f1 ?_); case f1 => rfl)
  | ((with_reducible refine' w_iteNT ?f1 ?_); case f1 => (first | (intro h; cases h; done) | decide))
  | ((with_reducible refine' c_isi ?t1 ?k1 ?_); (case t1 => walk_at "ty"); (case k1 => walk_at "kit"))
  | ((with_reducible refine' w_eq ?e1 ?_); case e1 => rfl)
  | ((with_reducible refine' w_ne ?e1 ?_); case e1 => rfl)
  | walk_at "u1")
local macro_rules | `(tactic| walk_at "s") => `(tactic| repeat walk_at "s1")
local macro_rules | `(tactic| walk_at "mem") => `(tactic| first | with_reducible exact List.mem_cons_self .. | ((with_reducible refine' List.mem_cons_of_mem _ ?q); (case q => walk_at "mem")) | assumption | ((with_reducible refine' List.mem_append_right _ ?q); (case q => walk_at "mem")) | (exact List.mem_append_left _ (by assumption)))
local macro_rules | `(tactic| walk_at "pk") => `(tactic| first | with_reducible exact Pk.here | ((with_reducible refine' Pk.there ?q); (case q => walk_at "pk")) | ((with_reducible refine' Pk.app ?q); (case q => walk_at "pk")))
local macro_rules | `(tactic| walk_at "pkb") => `(tactic| first | with_reducible exact PkB.here | ((with_reducible refine' PkB.there ?q); (case q => walk_at "pkb")) | ((with_reducible refine' PkB.app ?q); (case q => walk_at "pkb")))
local macro_rules | `(tactic| walk_at "spl") => `(tactic| first | with_reducible exact Spl.nil | ((with_reducible refine' Spl.cons ?h ?t); (case h => walk_at "pk"); (case t => walk_at "spl")) | ((with_reducible refine' Spl.blk ?h ?t); (case h => walk_at "pkb"); (case t => walk_at "spl")))
local macro_rules | `(tactic| walk_at "sbx") => `(tactic| first | with_reducible exact Sb.refl | with_reducible exact Sb.nil | with_reducible exact Sb.left | ((with_reducible refine' Sb.cons ?h ?t); (case h => walk_at "pk"); (case t => walk_at "sbx")) | ((with_reducible refine' Sb.blk ?h ?t); (case h => walk_at "pkb"); (case t => walk_at "sbx")) | ((with_reducible refine' Sb.drop ?q); (case q => walk_at "sbx")) | ((with_reducible refine' Sb.right ?q); (case q => walk_at "sbx")))
local macro_rules | `(tactic| walk_at "hd") => `(tactic| first | assumption | exact Hd.sb (by assumption) (by walk_at "sbx"))
local macro_rules | `(tactic| walk_at "sq") => `(tactic| first
  | assumption
  | exact Hd.sqL (by assumption) (by walk_at "mem")
  | exact Hd.sqT (by assumption) (by walk_at "mem")
  | exact Hd.sqF (by assumption) (by walk_at "mem")
  | (refine .inl ?_; walk_at "sq")
  | (refine .inr ?_; walk_at "sq"))
local macro_rules | `(tactic| walk_at "at") => `(tactic| first | rfl | assumption | exact atI_nat (by assumption))
local macro_rules | `(tactic| walk_at "dn1") => `(tactic| first
  | exact Dn.int | exact Dn.str | exact Dn.non | exact Dn.bl | assumption
  | ((refine' Dn.tp ?a1 ?m1 ?l1 ?p1); (case a1 => assumption); (case m1 => walk_at "mem"); (case l1 => (simp only [List.length_cons, List.length_nil]; omega)); (case p1 => walk_at "dns"))
  | ((refine' Dn.lt ?a1 ?m1 ?l1 ?p1); (case a1 => assumption); (case m1 => walk_at "mem"); (case l1 => (simp only [List.length_cons, List.length_nil]; omega)); (case p1 => walk_at "dns")))
local macro_rules | `(tactic| walk_at "dns") => `(tactic| first | exact Paired.nil | exact Dn.ints | ((refine' Paired.cons ?a1 ?b1); (case a1 => walk_at "dn1"); (case b1 => walk_at "dns")))
local macro_rules | `(tactic| walk_at "g1") => `(tactic| first
  | ((with_reducible refine' g_ixI ?h1 ?h2 ?h3 ?_); (case h1 => assumption); (case h2 => walk_at "mem"); (case h3 => omega); intro z hz)
  | ((with_reducible refine' g_ixIT ?h1 ?h2 ?h3 ?_); (case h1 => assumption); (case h2 => walk_at "mem"); (case h3 => omega); intro z hz)
  | ((with_reducible refine' g_setI ?h1 ?h2 ?h3 ?_); (case h1 => assumption); (case h2 => walk_at "pk"); (case h3 => omega); intro H2 hh2)
  | ((with_reducible refine' w_ixL ?h1 ?h2 ?_); (case h1 => walk_at "sq"); (case h2 => walk_at "at"))
  | ((with_reducible refine' w_ixT ?h1 ?h2 ?_); (case h1 => walk_at "sq"); (case h2 => walk_at "at"))
  | ((with_reducible refine' w_ixAny ?h1 ?h2 ?_); (case h1 => walk_at "sq"); (case h2 => walk_at "at"))
  | ((with_reducible refine' c_lenA ?h1 ?_); (case h1 => walk_at "sq"))
  | ((with_reducible refine' c_isi ?t1 ?k1 ?_); (case t1 => first | exact ty_T (by walk_at "sq") | exact ty_L (by walk_at "sq")); (case k1 => walk_at "kit"))
  | ((with_reducible refine' g_lst ?h1 ?h2 ?_); (case h1 => assumption); (case h2 => walk_at "sz"); intro p H2 hh2)
  | ((with_reducible refine' g_tup ?h1 ?h2 ?_); (case h1 => assumption); (case h2 => walk_at "sz"); intro p H2 hh2)
  | ((with_reducible refine' g_dict ?h1 ?_); (case h1 => assumption); intro p H2 hh2)
  | ((with_reducible refine' g_listL ?h1 ?h2 ?_); (case h1 => assumption); (case h2 => walk_at "sq"); intro p H2 hh2)
  | ((with_reducible refine' g_listT ?h1 ?h2 ?_); (case h1 => assumption); (case h2 => walk_at "sq"); intro p H2 hh2)
  | ((with_reducible refine' g_tupL ?h1 ?h2 ?_); (case h1 => assumption); (case h2 => walk_at "sq"); intro p H2 hh2)
  | ((with_reducible refine' g_set ?h1 ?h2 ?h3 ?_); (case h1 => assumption); (case h2 => walk_at "pk"); (case h3 => first | rfl | assumption | exact Evl.ixN_nat (by first | omega | (simp only [List.length_cons, List.length_nil]; omega))); intro H2 hh2)
  | ((with_reducible refine' g_kbm ?h1 ?h2 ?_); (case h1 => assumption); (case h2 => walk_at "mem"))
  | ((with_reducible refine' g_kbm0 ?h1 ?h2 ?_); (case h1 => assumption); (case h2 => walk_at "mem"))
  | ((with_reducible refine' g_app ?h1 ?h2 ?h3 ?_); (case h1 => assumption); (case h2 => walk_at "pk"); (case h3 => walk_at "sz"); intro H2 hh2)
  | ((with_reducible refine' g_kapp ?h1 ?h2 ?h3 ?_); (case h1 => assumption); (case h2 => walk_at "pk"); (case h3 => walk_at "sz"); intro H2 hh2)
  | ((with_reducible refine' g_fld ?h1 ?h2 ?h3 ?h4 ?h5 ?_); (case h1 => assumption); (case h2 => walk_at "mem"); (case h3 => assumption); (case h4 => assumption); (case h5 => rfl))
  | ((with_reducible refine' g_sfld ?h1 ?h2 ?h3 ?h4 ?h5 ?_); (case h1 => assumption); (case h2 => walk_at "pk"); (case h3 => assumption); (case h4 => assumption); (case h5 => decide); intro H2 hh2)
  | ((with_reducible refine' g_meth ?h1 ?h2 ?h3 ?_); (case h1 => assumption); (case h2 => walk_at "mem"); (case h3 => rfl))
  | ((with_reducible refine' g_prop ?h1 ?h2 ?_); (case h1 => assumption); (case h2 => walk_at "mem"))
  | ((with_reducible refine' g_make ?h1 ?_); (case h1 => assumption); intro x H2 hh2)
  | ((with_reducible refine' g_cat ?h1 ?h2 ?h3 ?h4 ?_); (case h1 => assumption); (case h2 => walk_at "mem"); (case h3 => walk_at "mem"); (case h4 => walk_at "sz"); intro p H2 hh2)
  | ((with_reducible refine' g_inT ?h1 ?h2 ?h3 ?h4 ?h5 ?_); (case h1 => assumption); (case h2 => walk_at "mem"); (case h3 => rfl); (case h4 => rfl); (case h5 => rfl)))
local macro_rules | `(tactic| walk_at "gs") => `(tactic| repeat first | walk_at "s1" | walk_at "g1")
local macro_rules | `(tactic| walk_at "ite") => `(tactic| first
  | ((with_reducible refine' w_iteT ?h1 ?_); (case h1 => omega))
  | ((with_reducible refine' w_iteF ?h1 ?_); (case h1 => omega))
  | (with_reducible refine w_ite ?_ ?_ <;> intro hq)
  | ((with_reducible refine' w_iteNT ?h1 ?_); (case h1 => omega))
  | ((with_reducible refine' w_iteNF ?h1 ?_); (case h1 => omega))
  | (with_reducible refine w_iteN ?_ ?_ <;> intro hq))
local macro_rules | `(tactic| walk_at "go") => `(tactic| repeat' first | walk_at "s1" | walk_at "g1" | walk_at "ite")
local macro_rules | `(tactic| walk_at "g1") => `(tactic| first
  | ((with_reducible refine' g_take1 ?h1 ?h2 ?h3 ?h4 ?_); (case h1 => assumption); (case h2 => walk_at "spl"); (case h3 => omega); (case h4 => omega); intro k H2 hk1 hh2)
  | ((with_reducible refine' g_take ?h1 ?h2 ?h4 ?_); (case h1 => assumption); (case h2 => walk_at "spl"); (case h4 => omega); intro k H2 hk1 hh2)
  | ((with_reducible refine' g_betweenN ?h1 ?h2 ?h5 ?h3 ?h4 ?_); (case h1 => assumption); (case h2 => walk_at "spl"); (case h5 => omega); (case h3 => omega); (case h4 => omega); intro k H2 hk1 hk2 hh2)
  | ((with_reducible refine' g_between ?h1 ?h2 ?h3 ?h4 ?_); (case h1 => assumption); (case h2 => walk_at "spl"); (case h3 => omega); (case h4 => omega); intro k H2 hk1 hk2 hh2)
  | ((with_reducible refine' g_size ?h1 ?h2 ?h3 ?h4 ?_); (case h1 => assumption); (case h2 => walk_at "spl"); (case h3 => omega); (case h4 => omega); intro k H2 hk1 hh2)
  | ((with_reducible refine' g_word ?h1 ?h2 ?_); (case h1 => assumption); (case h2 => walk_at "spl"); intro k H2 hk1 hh2))
local macro_rules | `(tactic| walk_at "g1") => `(tactic| first | with_reducible refine w_sl ?_ | with_reducible refine w_part ?_ | with_reducible refine w_noPart ?_ | with_reducible refine w_exI ?_)
local macro_rules | `(tactic| walk_at "g1") => `(tactic| first | with_reducible refine w_din ?_ | with_reducible refine w_dnotin ?_ | with_reducible refine w_dget ?_ | with_reducible refine w_dput ?_ | with_reducible refine w_ddel ?_ | with_reducible refine w_dpop ?_)
section
variable {P : Program} {w : World} {K : PySem.W.Frag} {mg : Str → Option Value} {base : Heap} {aREG aOPS : Addr}
/-! ### members told by a list of pids -/
def InS (ps : List Nat) (f : Nat → Mb) (n : Nat) (S : AgS) : Prop := (∀ j k, j < n → ps[j]? = some k → S k = some (f j)) ∧ ∀ k, (∀ j, j < n → ps[j]? ≠ some k) → S k = none
theorem InS.nil (ps : List Nat) (f : Nat → Mb) : InS ps f 0 fun _ => none := ⟨fun j k h => absurd h (Nat.not_lt_zero _), fun _ _ => rfl⟩
theorem nd_at {ps : List Nat} (hnd : ps.Nodup) {i j k : Nat} (hi : ps[i]? = some k) (hj : ps[j]? = some k) : i = j := (List.getElem?_inj (List.getElem?_eq_some_iff.mp hi).1 hnd).mp (hi.trans hj.symm)
theorem InS.enter {ps : List Nat} {f : Nat → Mb} {n k : Nat} {S : AgS} (hnd : ps.Nodup) (h : InS ps f n S) (hk : ps[n]? = some k) : InS ps f (n + 1) (upS S k (some (f n))) := by
  refine ⟨fun j k' hj hk' => ?_, fun k' hno => ?_⟩
  · by_cases e : k' = k
    · subst e
      rw [upS_same, nd_at hnd hk' hk]
    · rw [upS_ne e]
      exact h.1 j k' (Nat.lt_of_le_of_ne (Nat.le_of_lt_succ hj) fun z => by subst z; rw [hk] at hk'; cases hk'; exact e rfl) hk'
  · have e : k' ≠ k := fun z => hno n (Nat.lt_succ_self _) (by rw [z]; exact hk)
    rw [upS_ne e]
    exact h.2 k' fun j hj => hno j (Nat.lt_succ_of_lt hj)
theorem InS.none {ps : List Nat} {f : Nat → Mb} {n k : Nat} {S : AgS} (hnd : ps.Nodup) (h : InS ps f n S) (hk : ps[n]? = some k) : S k = none := h.2 k fun j hj z => Nat.lt_irrefl _ (nd_at hnd z hk ▸ hj)
theorem InS.get {ps : List Nat} {f : Nat → Mb} {S : AgS} {k : Nat} {m : Mb} (h : InS ps f ps.length S) (hm : S k = some m) : ∃ j, ps[j]? = some k ∧ m = f j := by
  by_cases hj : ∃ j, j < ps.length ∧ ps[j]? = some k
  · obtain ⟨j, h1, h2⟩ := hj
    rw [h.1 j k h1 h2] at hm
    exact ⟨j, h2, (Option.some.inj hm).symm⟩
  · rw [h.2 k fun j h1 h2 => hj ⟨j, h1, h2⟩] at hm
    cases hm
/-- the first of the greatest is picked -/
theorem InS.isPick {ps : List Nat} {f : Nat → Mb} {S : AgS} {j k : Nat} (hp : ps.Pairwise (· < ·)) (h8 : ∀ k ∈ ps, k < 8) (h : InS ps f ps.length S) (hr : ∀ j, (f j).ready = true) (hj : ps[j]? = some k)
    (hmax : ∀ i, i < ps.length → stdI (f i) ≤ stdI (f j) ∧ (i < j → stdI (f i) < stdI (f j))) : IsPick S k := by
  have hjl := (List.getElem?_eq_some_iff.mp hj).1
  have hS := h.1 j k hjl hj
  have std : ∀ {q m}, S q = some m → stdS S q = stdI m := fun e => by unfold stdS; rw [e]; rfl
  refine ⟨ready_mem.mpr ⟨h8 k (List.mem_of_getElem? hj), _, hS, hr j⟩, fun q hq => ?_⟩
  obtain ⟨_, m, hm, _⟩ := ready_mem.mp hq
  obtain ⟨i, hi, rfl⟩ := h.get hm
  have hil := (List.getElem?_eq_some_iff.mp hi).1
  rw [std hm, std hS]
  obtain ⟨h1, h2⟩ := hmax i hil
  exact ⟨h1, fun hlt => h2 ((asc_at hp hi hj).mpr hlt)⟩
theorem InS.pick {ps : List Nat} {f : Nat → Mb} {S : AgS} {j k : Nat} (hnd : ps.Nodup) (h8 : ∀ k ∈ ps, k < 8) (h : InS ps f ps.length S) (hr : ∀ j, (f j).ready = true) (hj : ps[j]? = some k) : InS ps (fun i => if i = j then { f i with age := 0 } else agedM (f i)) ps.length (pickS S k) := by
  refine ⟨fun i k' hi hk' => ?_, fun k' hno => ?_⟩
  · have hS := h.1 i k' hi hk'
    rw [pick_at (h8 k' (List.mem_of_getElem? hk')) hS, if_pos (hr i)]
    by_cases e : i = j
    · subst e
      rw [hj] at hk'
      cases hk'
      rw [if_pos rfl]
      exact congrArg some (if_pos rfl).symm
    · show some (if k' = k then { f i with age := 0 } else agedM (f i)) = some (if i = j then { f i with age := 0 } else agedM (f i))
      rw [if_neg e, if_neg fun (z : k' = k) => e (nd_at hnd (z ▸ hk') hj)]
  · cases e : pickS S k k' with
    | none => rfl
    | some m' =>
      obtain ⟨m, hm⟩ := pick_back e
      rw [h.2 k' hno] at hm
      cases hm
/-! ### the race: all but the last enter with 7, the last with low -/
/-- the age of the one at place i after t picks, n in all -/
def simA (n t i : Nat) : Nat := if i + 1 = n then t else if t ≤ i then t else (t - 1 - i) % (n - 1)
def simB (n low t i : Nat) : Bool := !(decide (t + low < 6 + n)) || ((decide (i + 1 = n) || decide (simA n t i ≤ simA n t (t % (n - 1)))) && ((!decide (i < t % (n - 1)) || decide (simA n t i < simA n t (t % (n - 1)))) && (!decide (i + 1 = n) || decide (low + t ≤ 7 + simA n t (t % (n - 1))))))
theorem sim_b : ((List.range 9).all fun n => (List.range 8).all fun low => (List.range 15).all fun t => (List.range n).all fun i => !decide (2 ≤ n) || simB n low t i) = true := by decide +kernel
theorem sim_max {n low t i : Nat} (h1 : n < 9) (h2 : 2 ≤ n) (h3 : low < 8) (h4 : t + low < 6 + n) (h5 : i < n) : (i + 1 = n ∨ simA n t i ≤ simA n t (t % (n - 1))) ∧ (i < t % (n - 1) → simA n t i < simA n t (t % (n - 1))) ∧ (i + 1 = n → low + t ≤ 7 + simA n t (t % (n - 1))) := by
  have e := List.all_eq_true.mp (List.all_eq_true.mp (List.all_eq_true.mp (List.all_eq_true.mp sim_b n (List.mem_range.mpr h1)) low (List.mem_range.mpr h3)) t (List.mem_range.mpr (by omega))) i (List.mem_range.mpr h5)
  rw [decide_eq_true h2] at e
  unfold simB at e
  rw [decide_eq_true h4] at e
  simp only [Bool.not_true, Bool.false_or, Bool.and_eq_true, Bool.or_eq_true, Bool.not_eq_true', decide_eq_true_eq, decide_eq_false_iff_not] at e
  obtain ⟨e1, e2, e3⟩ := e
  exact ⟨e1, fun z => e2.resolve_left (fun y => y z), fun z => e3.resolve_left (fun y => y z)⟩
theorem sim_step : ∀ n, n < 9 → 2 ≤ n → ∀ t, t < 15 → ∀ i, i < n → simA n (t + 1) i = if i = t % (n - 1) then 0 else simA n t i + 1 := by decide +kernel
theorem sim_last : ∀ n, n < 9 → 2 ≤ n → ∀ low, low < 8 → ∀ i, i < n → i + 1 = n ∨ 7 + simA n (6 + n - low) i < low + (6 + n - low) := by decide +kernel
def simP (n low i : Nat) : Nat := if i + 1 = n then low else 7
def simF (n low t i : Nat) : Mb := ⟨simP n low i, 0, true, simA n t i⟩
theorem simF_std (n low t i : Nat) : stdI (simF n low t i) = ((simP n low i : Nat) : Int) + (simA n t i : Nat) := by
  unfold stdI effI simF
  show (if ((0 : Nat) : Int) > ((simP n low i : Nat) : Int) then ((0 : Nat) : Int) else ((simP n low i : Nat) : Int)) + _ = _
  rw [if_neg (by omega)]
theorem simF_new {n low i : Nat} (h : 2 ≤ n) : simF n low 0 i = newM (simP n low i) true := by
  unfold simF newM simA
  split
  · rfl
  · rw [if_pos (Nat.zero_le _)]
/-- what is picked at pick t, and what is so behind it -/
theorem InS.race {ps : List Nat} {low t : Nat} {S : AgS} (hp : ps.Pairwise (· < ·)) (h8 : ∀ k ∈ ps, k < 8) (h2 : 2 ≤ ps.length) (h9 : ps.length < 9) (hlow : low < 8) (h : InS ps (simF ps.length low t) ps.length S) (ht : t + low < 6 + ps.length) :
    ∃ k, ps[t % (ps.length - 1)]? = some k ∧ IsPick S k ∧ InS ps (simF ps.length low (t + 1)) ps.length (pickS S k) := by
  have hjl : t % (ps.length - 1) < ps.length := Nat.lt_of_lt_of_le (Nat.mod_lt _ (by omega)) (by omega)
  have hjn : ¬ t % (ps.length - 1) + 1 = ps.length := by have := Nat.mod_lt t (show 0 < ps.length - 1 by omega); omega
  obtain ⟨k, hk⟩ : ∃ k, ps[t % (ps.length - 1)]? = some k := ⟨_, List.getElem?_eq_getElem hjl⟩
  have hnd : ps.Nodup := hp.imp fun {a b} z => Nat.ne_of_lt z
  refine ⟨k, hk, h.isPick hp h8 (fun _ => rfl) hk fun i hi => ?_, ?_⟩
  · obtain ⟨e1, e2, e3⟩ := sim_max h9 h2 hlow ht hi
    rw [simF_std, simF_std]
    have ej : simP ps.length low (t % (ps.length - 1)) = 7 := if_neg hjn
    by_cases el : i + 1 = ps.length
    · have ei : simP ps.length low i = low := if_pos el
      have es : simA ps.length t i = t := if_pos el
      have := e3 el
      rw [ei, ej, es]
      exact ⟨by omega, fun z => absurd z (by omega)⟩
    · have ei : simP ps.length low i = 7 := if_neg el
      have := e1.resolve_left el
      rw [ei, ej]
      exact ⟨by omega, fun z => by have := e2 z; omega⟩
  · have hpk := h.pick hnd h8 (fun _ => rfl) hk
    refine ⟨fun i k' hi hk' => ?_, hpk.2⟩
    rw [hpk.1 i k' hi hk']
    have st := sim_step ps.length h9 h2 t (by omega) i hi
    show some (if i = t % (ps.length - 1) then { simF ps.length low t i with age := 0 } else agedM (simF ps.length low t i)) = some ⟨simP ps.length low i, 0, true, simA ps.length (t + 1) i⟩
    rw [st]
    by_cases e : i = t % (ps.length - 1)
    · rw [if_pos e, if_pos e]
      rfl
    · rw [if_neg e, if_neg e]
      rfl
/-- then the last is picked -/
theorem InS.won {ps : List Nat} {low k : Nat} {S : AgS} (hp : ps.Pairwise (· < ·)) (h8 : ∀ k ∈ ps, k < 8) (h2 : 2 ≤ ps.length) (h9 : ps.length < 9) (hlow : low < 8) (hk : ps[ps.length - 1]? = some k) (h : InS ps (simF ps.length low (6 + ps.length - low)) ps.length S) : IsPick S k := by
  refine h.isPick hp h8 (fun _ => rfl) hk fun i hi => ?_
  rw [simF_std, simF_std]
  have el : ps.length - 1 + 1 = ps.length := by omega
  have e1 : simP ps.length low (ps.length - 1) = low := if_pos el
  have e2 : simA ps.length (6 + ps.length - low) (ps.length - 1) = 6 + ps.length - low := if_pos el
  rw [e1, e2]
  rcases sim_last ps.length h9 h2 low hlow i hi with z | z
  · have : i = ps.length - 1 := by omega
    subst this
    rw [e1, e2]
    exact ⟨Int.le_refl _, fun y => absurd y (Nat.lt_irrefl _)⟩
  · by_cases e : i + 1 = ps.length
    · have : i = ps.length - 1 := by omega
      subst this
      rw [e1, e2]
      exact ⟨Int.le_refl _, fun y => absurd y (Nat.lt_irrefl _)⟩
    · have e3 : simP ps.length low i = 7 := if_neg e
      rw [e3]
      exact ⟨by omega, fun _ => by omega⟩
/-! ### its log -/
def rowAt (ps : List Nat) (low i : Nat) : LRow := if i < ps.length then .enter (ps.getD i 0) (simP ps.length low i) else if i - ps.length < 6 + ps.length - low then .pick (some (ps.getD ((i - ps.length) % (ps.length - 1)) 0)) else .pick (some (ps.getD (ps.length - 1) 0))
def rowsTo (ps : List Nat) (low i : Nat) : List LRow := (List.range i).map (rowAt ps low)
theorem rowsTo_succ (ps : List Nat) (low i : Nat) : rowsTo ps low (i + 1) = rowsTo ps low i ++ [rowAt ps low i] := by
  unfold rowsTo
  rw [List.range_succ, List.map_append]
  rfl
theorem rowsTo_len (ps : List Nat) (low i : Nat) : (rowsTo ps low i).length = i := by unfold rowsTo; rw [List.length_map, List.length_range]
theorem rowsTo_take (ps : List Nat) (low : Nat) {i j : Nat} (h : i ≤ j) : (rowsTo ps low j).take i = rowsTo ps low i := by
  unfold rowsTo
  rw [← List.map_take, List.take_range, Nat.min_eq_left h]
theorem getD_at {ps : List Nat} {i k : Nat} (h : ps[i]? = some k) : ps.getD i 0 = k := by rw [List.getD_eq_getElem?_getD, h]; rfl
theorem pwAll_succ (ps : List Nat) (low p i : Nat) : pwAll p (rowsTo ps low (i + 1)) = pwStep p (pwAll p (rowsTo ps low i)) (rowAt ps low i) := by
  rw [rowsTo_succ]
  exact List.foldl_append ..
theorem pw_enters {ps : List Nat} {low p : Nat} (hnd : ps.Nodup) (h2 : 2 ≤ ps.length) (hp : ps[ps.length - 1]? = some p) : ∀ i, i < ps.length → pwAll p (rowsTo ps low i) = (0, 0, false)
  | 0, _ => rfl
  | i + 1, hi => by
    rw [pwAll_succ, pw_enters hnd h2 hp i (by omega)]
    unfold rowAt
    rw [if_pos (by omega)]
    refine if_neg fun z => ?_
    have hii : ps[i]? = some p := by rw [← z, List.getD_eq_getElem?_getD, List.getElem?_eq_getElem (show i < ps.length by omega)]; rfl
    have := nd_at hnd hii hp
    omega
theorem pw_entered {ps : List Nat} {low p : Nat} (hnd : ps.Nodup) (h2 : 2 ≤ ps.length) (hp : ps[ps.length - 1]? = some p) : pwAll p (rowsTo ps low ps.length) = (0, 0, true) := by
  have e : ps.length = (ps.length - 1) + 1 := by omega
  rw [show rowsTo ps low ps.length = rowsTo ps low ((ps.length - 1) + 1) from congrArg _ e, pwAll_succ, pw_enters hnd h2 hp _ (by omega)]
  unfold rowAt
  rw [if_pos (by omega), getD_at hp]
  exact if_pos rfl
theorem pw_raced {ps : List Nat} {low p : Nat} (hnd : ps.Nodup) (h2 : 2 ≤ ps.length) (hp : ps[ps.length - 1]? = some p) : ∀ t, t ≤ 6 + ps.length - low → pwAll p (rowsTo ps low (ps.length + t)) = (t, t, true)
  | 0, _ => pw_entered hnd h2 hp
  | t + 1, ht => by
    rw [show ps.length + (t + 1) = (ps.length + t) + 1 from rfl, pwAll_succ, pw_raced hnd h2 hp t (by omega)]
    unfold rowAt
    rw [if_neg (by omega), Nat.add_sub_cancel_left, if_pos (by omega), pw_run]
    · rw [Nat.max_eq_right (Nat.le_succ _)]
    · intro z
      have hjl := Nat.mod_lt t (show 0 < ps.length - 1 by omega)
      have hjj : ps[t % (ps.length - 1)]? = some p := by
        have z2 : ps.getD (t % (ps.length - 1)) 0 = p := Option.some.inj z
        rw [← z2, List.getD_eq_getElem?_getD, List.getElem?_eq_getElem (show t % (ps.length - 1) < ps.length by omega)]; rfl
      have := nd_at hnd hjj hp
      omega
theorem pw_won {ps : List Nat} {low p : Nat} (hnd : ps.Nodup) (h2 : 2 ≤ ps.length) (hp : ps[ps.length - 1]? = some p) : (pwAll p (rowsTo ps low (ps.length + (6 + ps.length - low) + 1))).1 = 6 + ps.length - low := by
  rw [pwAll_succ, pw_raced hnd h2 hp _ (Nat.le_refl _)]
  unfold rowAt
  rw [if_neg (by omega), Nat.add_sub_cancel_left, if_neg (Nat.lt_irrefl _), getD_at hp, pw_hit]
theorem paired_take {α β : Type} {R : α → β → Prop} : ∀ {xs : List α} {ys : List β} (n : Nat), Paired R xs ys → Paired R (xs.take n) (ys.take n)
  | _, _, 0, _ => by rw [List.take_zero, List.take_zero]; exact .nil
  | _, _, _ + 1, .nil => .nil
  | _, _, n + 1, .cons h t => .cons h (paired_take n t)
end
end K24
set_option Elab.async false
set_option linter.all false
set_option maxRecDepth 100000
set_option maxHeartbeats 4000000
namespace K24
open PySem PySem.Spec PyProof.Rows L2 Wk
local macro_rules | `(tactic| walk_at "u1") => `(tactic| fail "no more")
local macro_rules | `(tactic| walk_at "pos") => `(tactic| first | assumption | omega | decide | (simp only [Int.ofNat_eq_natCast] at *; omega))
local macro_rules | `(tactic| walk_at "sz") => `(tactic| first
  | (simp only [List.length_cons, List.length_nil]; decide)
  | exact Evl.sz_of (by omega)
  | exact Evl.sz_lt (by omega)
  | exact Evl.sz_of (by simp only [List.length_map, List.length_append, List.length_cons, List.length_nil, List.length_replicate]; omega)
  | exact Evl.sz_lt (by simp only [List.length_map, List.length_append, List.length_cons, List.length_nil, List.length_replicate]; omega))
local macro_rules | `(tactic| walk_at "cond") => `(tactic| first
  | exact Or.inr ⟨by decide, by decide⟩
  | (show (0 : Int) < _; first | decide | assumption | omega)
  | exact Or.inl ⟨by omega, by omega⟩
  | exact Or.inr ⟨by omega, by omega⟩
  | exact ⟨by decide, by decide, by decide⟩
  | exact log2_lt (by omega) (by omega)
  | exact ⟨by omega, by omega⟩)
local macro_rules | `(tactic| walk_at "ty") => `(tactic| first
  | exact ty_int | exact ty_bl | exact ty_str | exact ty_non
  | exact ty_L (by assumption) | exact ty_T (by assumption)
  | exact ty_L (SqL.of (by assumption)) | exact ty_T (SqT.of (by assumption)))
local macro_rules | `(tactic| walk_at "kit") => `(tactic| first
  | exact k_ii | exact k_ib | exact k_is | exact k_il | exact k_it
  | exact k_bb | exact k_bi | exact k_bs | exact k_bl | exact k_bt
  | exact k_ss | exact k_sb | exact k_si | exact k_sl | exact k_st
  | exact k_ll | exact k_lb | exact k_li | exact k_ls | exact k_lt
  | exact k_tt | exact k_tb | exact k_ti | exact k_ts | exact k_tl
  | exact k_nn | exact k_ni | exact k_ns | exact k_nl | exact k_nt)
local macro_rules | `(tactic| walk_at "s1") => `(tactic| first
  | with_reducible refine w_seq ?_
  | with_reducible refine w_set ?_
  | with_reducible refine w_op ?_
  | ((with_reducible refine' w_var ?h1 ?_); (case h1 => rfl))
  | with_reducible refine w_c ?_
  | with_reducible refine w_cb ?_
  | with_reducible refine w_cons ?_
  | with_reducible refine w_nil ?_
  | with_reducible refine w_I0 ?_
  | ((with_reducible refine' w_I ?c1 ?_); case c1 => walk_at "cond")
  | with_reducible refine w_ret ?_
  | with_reducible refine w_next ?_
  | with_reducible refine w_ifS ?_
  | with_reducible refine w_test ?_
  | with_reducible refine w_tB ?_
  | with_reducible refine w_k ?_
  | with_reducible refine w_eqI ?_
  | with_reducible refine w_neI ?_
  | with_reducible refine w_eqS ?_
  | with_reducible refine w_neS ?_
  | with_reducible refine w_and ?_
  | with_reducible refine w_or ?_
  | with_reducible refine w_not ?_
  | with_reducible refine w_andV ?_
  | with_reducible refine w_orV ?_
  | with_reducible refine w_notV ?_
  | with_reducible refine w_ifE ?_
  | with_reducible refine w_true ?_
  | with_reducible refine w_false ?_
  | with_reducible refine w_ntrue ?_
  | with_reducible refine w_nfalse ?_
  | with_reducible refine w_call ?_
  | with_reducible refine c_int ?_
  | with_reducible refine c_abs ?_
  | with_reducible refine c_max ?_
  | with_reducible refine c_min ?_
  | with_reducible refine w_drop ?_
  | with_reducible refine w_sfld ?_
  | with_reducible refine w_meth ?_
  | with_reducible refine w_make ?_
  | with_reducible refine w_prop ?_
  | with_reducible refine w_callK ?_
  | with_reducible refine w_callN ?_
  | with_reducible refine w_star ?_
  | with_reducible refine w_gcons ?_
  | with_reducible refine w_gname ?_
  | with_reducible refine w_gnil ?_
  | with_reducible refine w_retN ?_
  | with_reducible refine w_tup ?_
  | with_reducible refine w_lst ?_
  | with_reducible refine w_fld ?_
  | with_reducible refine w_bm ?_
  | with_reducible refine w_bm0 ?_
  | with_reducible refine w_forL ?_
  | with_reducible refine w_forT ?_
  | with_reducible refine w_forS ?_
  | with_reducible refine w_forR ?_
  | with_reducible refine w_lcR ?_
  | with_reducible refine w_lcL ?_
  | with_reducible refine w_lcT ?_
  | with_reducible refine w_isN ?_
  | with_reducible refine w_notN ?_
  | with_reducible refine w_asg ?_
  | with_reducible refine w_gsub ?_
  | ((with_reducible refine' w_aug ?h1 ?_); (case h1 => rfl))
  | with_reducible refine w_augS ?_
  | with_reducible refine w_ipI ?_
  | with_reducible refine w_un ?_
  | with_reducible refine w_U ?_
  | ((with_reducible refine' w_iteF ?f1 ?_); case f1 => (first | (intro h; cases h; done) | decide))
  | ((with_reducible refine' w_iteT ?f1 ?_); case f1 => rfl)
  | ((with_reducible refine' w_iteNF ?f1 ?_); case f1 => rfl)
  | ((with_reducible refine' w_iteNT ?f1 ?_); case f1 => (first | (intro h; cases h; done) | decide))
  | ((with_reducible refine' c_isi ?t1 ?k1 ?_); (case t1 => walk_at "ty"); (case k1 => walk_at "kit"))
  | ((with_reducible refine' w_eq ?e1 ?_); case e1 => rfl)
  | ((with_reducible refine' w_ne ?e1 ?_); case e1 => rfl)
  | walk_at "u1")
local macro_rules | `(tactic| walk_at "s") => `(tactic| repeat walk_at "s1")
local macro_rules | `(tactic| walk_at "mem") => `(tactic| first | with_reducible exact List.mem_cons_self .. | ((with_reducible refine' List.mem_cons_of_mem _ ?q); (case q => walk_at "mem")) | assumption | ((with_reducible refine' List.mem_append_right _ ?q); (case q => walk_at "mem")) | (exact List.mem_append_left _ (by assumption)))
local macro_rules | `(tactic| walk_at "pk") => `(tactic| first | with_reducible exact Pk.here | ((with_reducible refine' Pk.there ?q); (case q => walk_at "pk")) | ((with_reducible refine' Pk.app ?q); (case q => walk_at "pk")))
local macro_rules | `(tactic| walk_at "pkb") => `(tactic| first | with_reducible exact PkB.here | ((with_reducible refine' PkB.there ?q); (case q => walk_at "pkb")) | ((with_reducible refine' PkB.app ?q); (case q => walk_at "pkb")))
local macro_rules | `(tactic| walk_at "spl") => `(tactic| first | with_reducible exact Spl.nil | ((with_reducible refine' Spl.cons ?h ?t); (case h => walk_at "pk"); (case t => walk_at "spl")) | ((with_reducible refine' Spl.blk ?h ?t); (case h => walk_at "pkb"); (case t => walk_at "spl")))
local macro_rules | `(tactic| walk_at "sbx") => `(tactic| first | with_reducible exact Sb.refl | with_reducible exact Sb.nil | with_reducible exact Sb.left | ((with_reducible refine' Sb.cons ?h ?t); (case h => walk_at "pk"); (case t => walk_at "sbx")) | ((with_reducible refine' Sb.blk ?h ?t); (case h => walk_at "pkb"); (case t => walk_at "sbx")) | ((with_reducible refine' Sb.drop ?q); (case q => walk_at "sbx")) | ((with_reducible refine' Sb.right ?q); (case q => walk_at "sbx")))
local macro_rules | `(tactic| walk_at "hd") => `(tactic| first | assumption | exact Hd.sb (by assumption) (by walk_at "sbx"))
local macro_rules | `(tactic| walk_at "sq") => `(tactic| first
  | assumption
  | exact Hd.sqL (by assumption) (by walk_at "mem")
  | exact Hd.sqT (by assumption) (by walk_at "mem")
  | exact Hd.sqF (by assumption) (by walk_at "mem")
  | (refine .inl ?_; walk_at "sq")
  | (refine .inr ?_; walk_at "sq"))
local macro_rules | `(tactic| walk_at "at") => `(tactic| first | rfl | assumption | exact atI_nat (by assumption))
local macro_rules | `(tactic| walk_at "dn1") => `(tactic| first
  | exact Dn.int | exact Dn.str | exact Dn.non | exact Dn.bl | assumption
  | ((refine' Dn.tp ?a1 ?m1 ?l1 ?p1); (case a1 => assumption); (case m1 => walk_at "mem"); (case l1 => (simp only [List.length_cons, List.length_nil]; omega)); (case p1 => walk_at "dns"))
  | ((refine' Dn.lt ?a1 ?m1 ?l1 ?p1); (case a1 => assumption); (case m1 => walk_at "mem"); (case l1 => (simp only [List.length_cons, List.length_nil]; omega)); (case p1 => walk_at "dns")))
local macro_rules | `(tactic| walk_at "dns") => `(tactic| first | exact Paired.nil | exact Dn.ints | ((refine' Paired.cons ?a1 ?b1); (case a1 => walk_at "dn1"); (case b1 => walk_at "dns")))
local macro_rules | `(tactic| walk_at "g1") => `(tactic| first
  | ((with_reducible refine' g_ixI ?h1 ?h2 ?h3 ?_); (case h1 => assumption); (case h2 => walk_at "mem"); (case h3 => omega); intro z hz)
  | ((with_reducible refine' g_ixIT ?h1 ?h2 ?h3 ?_); (case h1 => assumption); (case h2 => walk_at "mem"); (case h3 => omega); intro z hz)
  | ((with_reducible refine' g_setI ?h1 ?h2 ?h3 ?_); (case h1 => assumption); (case h2 => walk_at "pk"); (case h3 => omega); intro H2 hh2)
  | ((with_reducible refine' w_ixL ?h1 ?h2 ?_); (case h1 => walk_at "sq"); (case h2 => walk_at "at"))
  | ((with_reducible refine' w_ixT ?h1 ?h2 ?_); (case h1 => walk_at "sq"); (case h2 => walk_at "at"))
  | ((with_reducible refine' w_ixAny ?h1 ?h2 ?_); (case h1 => walk_at "sq"); (case h2 => walk_at "at"))
  | ((with_reducible refine' c_lenA ?h1 ?_); (case h1 => walk_at "sq"))
  | ((with_reducible refine' c_isi ?t1 ?k1 ?_); (case t1 => first | exact ty_T (by walk_at "sq") | exact ty_L (by walk_at "sq")); (case k1 => walk_at "kit"))
  | ((with_reducible refine' g_lst ?h1 ?h2 ?_); (case h1 => assumption); (case h2 => walk_at "sz"); intro p H2 hh2)
  | ((with_reducible refine' g_tup ?h1 ?h2 ?_); (case h1 => assumption); (case h2 => walk_at "sz"); intro p H2 hh2)
  | ((with_reducible refine' g_dict ?h1 ?_); (case h1 => assumption); intro p H2 hh2)
  | ((with_reducible refine' g_listL ?h1 ?h2 ?_); (case h1 => assumption); (case h2 => walk_at "sq"); intro p H2 hh2)
  | ((with_reducible refine' g_listT ?h1 ?h2 ?_); (case h1 => assumption); (case h2 => walk_at "sq"); intro p H2 hh2)
  | ((with_reducible refine' g_tupL ?h1 ?h2 ?_); (case h1 => assumption); (case h2 => walk_at "sq"); intro p H2 hh2)
  | ((with_reducible refine' g_set ?h1 ?h2 ?h3 ?_); (case h1 => assumption); (case h2 => walk_at "pk"); (case h3 => first | rfl | assumption | exact Evl.ixN_nat (by first | omega | (simp only [List.length_cons, List.length_nil]; omega))); intro H2 hh2)
  | ((with_reducible refine' g_kbm ?h1 ?h2 ?_); (case h1 => assumption); (case h2 => walk_at "mem"))
  | ((with_reducible refine' g_kbm0 ?h1 ?h2 ?_); (case h1 => assumption); (case h2 => walk_at "mem"))
  | ((with_reducible refine' g_app ?h1 ?h2 ?h3 ?_); (case h1 => assumption); (case h2 => walk_at "pk"); (case h3 => walk_at "sz"); intro H2 hh2)
  | ((with_reducible refine' g_kapp ?h1 ?h2 ?h3 ?_); (case h1 => assumption); (case h2 => walk_at "pk"); (case h3 => walk_at "sz"); intro H2 hh2)
  | ((with_reducible refine' g_fld ?h1 ?h2 ?h3 ?h4 ?h5 ?_); (case h1 => assumption); (case h2 => walk_at "mem"); (case h3 => assumption); (case h4 => assumption); (case h5 => rfl))
  | ((with_reducible refine' g_sfld ?h1 ?h2 ?h3 ?h4 ?h5 ?_); (case h1 => assumption); (case h2 => walk_at "pk"); (case h3 => assumption); (case h4 => assumption); (case h5 => decide); intro H2 hh2)
  | ((with_reducible refine' g_meth ?h1 ?h2 ?h3 ?_); (case h1 => assumption); (case h2 => walk_at "mem"); (case h3 => rfl))
  | ((with_reducible refine' g_prop ?h1 ?h2 ?_); (case h1 => assumption); (case h2 => walk_at "mem"))
  | ((with_reducible refine' g_make ?h1 ?_); (case h1 => assumption); intro x H2 hh2)
  | ((with_reducible refine' g_cat ?h1 ?h2 ?h3 ?h4 ?_); (case h1 => assumption); (case h2 => walk_at "mem"); (case h3 => walk_at "mem"); (case h4 => walk_at "sz"); intro p H2 hh2)
  | ((with_reducible refine' g_inT ?h1 ?h2 ?h3 ?h4 ?h5 ?_); (case h1 => assumption); (case h2 => walk_at "mem"); (case h3 => rfl); (case h4 => rfl); (case h5 => rfl)))
local macro_rules | `(tactic| walk_at "gs") => `(tactic| repeat first | walk_at "s1" | walk_at "g1")
local macro_rules | `(tactic| walk_at "ite") => `(tactic| first
  | ((with_reducible refine' w_iteT ?h1 ?_); (case h1 => omega))
  | ((with_reducible refine' w_iteF ?h1 ?_); (case h1 => omega))
  | (with_reducible refine w_ite ?_ ?_ <;> intro hq)
  | ((with_reducible refine' w_iteNT ?h1 ?_); (case h1 => omega))
  | ((with_reducible refine' w_iteNF ?h1 ?_); (case h1 => omega))
  | (with_reducible refine w_iteN ?_ ?_ <;> intro hq))
local macro_rules | `(tactic| walk_at "go") => `(tactic| repeat' first | walk_at "s1" | walk_at "g1" | walk_at "ite")
local macro_rules | `(tactic| walk_at "g1") => `(tactic| first | with_reducible refine w_din ?_ | with_reducible refine w_dnotin ?_ | with_reducible refine w_dget ?_ | with_reducible refine w_dput ?_ | with_reducible refine w_ddel ?_ | with_reducible refine w_dpop ?_)
section
variable {P : Program} {w : World} {K : PySem.W.Frag} {mg : Str → Option Value} {base : Heap} {aREG aOPS : Addr}
section
variable {C : Addr}
abbrev BoF (K : PySem.W.Frag) (f : Addr) (fd : FuncData) : Prop := FunD K "bound" "Ages.bound" (defArgs s_Ages__bound) (defBody s_Ages__bound) (defScope s_Ages__bound) [.int 8] [] f fd
theorem vals_rev2 : ∀ {vs : List V} {us : List Value}, Vals vs us → Vals vs.reverse us.reverse
  | _, _, .nil => .nil
  | _, _, .cons r t => by
    rw [List.reverse_cons, List.reverse_cons]
    exact (vals_rev2 t).append (.cons r .nil)
def sp_bound : Sp := fun vs H Q _ => ∃ lo n : Nat, vs = [.int lo, .int n] ∧ lo ≤ 7 ∧ 1 ≤ n ∧ n ≤ 8 ∧ Q (.int (6 - (lo : Int) + n)) H
theorem fo_bound {f : Addr} {fd : FuncData} (F : BoF K f fd) (c_ask_range : C8.Cal P w K mg base 3 "ask_range" (sp_ask K) []) : FnOk P w K mg base C8.CX0 4 f fd ["priority", "count"] sp_bound := by
  refine F.ok sc_Ages__bound (fun vs H Q E h => ?_) (fun cdv A outer s H vs Q E hr h => ?_)
  · obtain ⟨lo, n, rfl, _⟩ := h
    rfl
  · obtain ⟨lo, n, rfl, h1, h2, h3, q⟩ := h
    refine ⟨_, PSs.nox (pss_cons (ps_expr (C8.pe_c c_ask_range hr (by first | decide | omega) rfl (pa_cons pe_str (pa_cons (pv 0) (pa_cons pe_int (pa_cons pe_int pa_nil))))))
  (pss_cons (ps_expr (C8.pe_c c_ask_range hr (by first | decide | omega) rfl (pa_cons pe_str (pa_cons (pv 1) (pa_cons pe_int (pa_cons pe_int pa_nil))))))
  (pss_one (ps_ret (pe_op op_add (pe_op op_sub pe_int (pv 0)) (pv 1)))))), ?_⟩
    walk_at "gs"
    refine u_ask ⟨by omega, by omega⟩ ?_
    walk_at "gs"
    refine u_ask ⟨by omega, by omega⟩ ?_
    walk_at "gs"
    exact q
theorem c_bound2 {p f : Addr} {fd : FuncData} (F : BoF K f fd) (sm : SMet K C "bound" p f) (c_ask_range : C8.Cal P w K mg base 3 "ask_range" (sp_ask K) []) : CalS P w K mg base 4 C "bound" sp_bound [] := by
  obtain ⟨ds, r, b⟩ := F.binds1 (ps := ["priority", "count"]) 2 1 (by simp) rfl fun T kV doc pm an cdv ct us its h1 h2 => match us, its, h1, h2 with | [_, _], [_], _, _ => ⟨_, rfl, rfl⟩
  exact ⟨p, f, fd, _, ds, sm, fo_bound F c_ask_range, F.kp, b, r⟩
theorem c_bound1 {p f : Addr} {fd : FuncData} (F : BoF K f fd) (sm : SMet K C "bound" p f) (c_ask_range : C8.Cal P w K mg base 3 "ask_range" (sp_ask K) []) : CalS P w K mg base 4 C "bound" sp_bound [.int 8] := by
  obtain ⟨ds, r, b⟩ := F.binds1 (ps := ["priority", "count"]) 1 0 (by simp) rfl fun T kV doc pm an cdv ct us its h1 h2 => match us, its, h1, h2 with | [_], [_], _, _ => ⟨_, rfl, rfl⟩
  exact ⟨p, f, fd, _, ds, sm, fo_bound F c_ask_range, F.kp, b, r⟩
theorem ck_bound {p f : Addr} {fd : FuncData} (F : BoF K f fd) (sm : SMet K C "bound" p f) (c_ask_range : C8.Cal P w K mg base 3 "ask_range" (sp_ask K) []) : CalSK P w K mg base 4 C "bound" sp_bound ["count", "priority"] (fun vs zs => vs ++ zs.reverse) := by
  obtain ⟨its, kb⟩ := F.kbindsD (ps := ["priority", "count"]) 0 ["count", "priority"] (fun us _ ws => us ++ ws.reverse) (by simp) (fun r1 _ r3 => r1.append (vals_rev2 r3)) fun T kV doc pm an cdv ct us its ws h1 h2 h3 => match us, its, ws, h1, h2, h3 with | [], [_], [_, _], _, _, _ => ⟨_, rfl, rfl⟩
  exact ⟨p, f, fd, _, _, sm, fo_bound F c_ask_range, F.kp, kb⟩
end
end
end K24
set_option Elab.async false
set_option linter.all false
set_option maxRecDepth 100000
set_option maxHeartbeats 4000000
namespace K24
open PySem PySem.Spec PyProof.Rows L2 Wk
local macro_rules | `(tactic| walk_at "u1") => `(tactic| fail "no more")
local macro_rules | `(tactic| walk_at "pos") => `(tactic| first | assumption | omega | decide | (simp only [Int.ofNat_eq_natCast] at *; omega))
local macro_rules | `(tactic| walk_at "sz") => `(tactic| first
  | (simp only [List.length_cons, List.length_nil]; decide)
  | exact Evl.sz_of (by omega)
  | exact Evl.sz_lt (by omega)
  | exact Evl.sz_of (by simp only [List.length_map, List.length_append, List.length_cons, List.length_nil, List.length_replicate]; omega)
  | exact Evl.sz_lt (by simp only [List.length_map, List.length_append, List.length_cons, List.length_nil, List.length_replicate]; omega))
local macro_rules | `(tactic| walk_at "cond") => `(tactic| first
  | exact Or.inr ⟨by decide, by decide⟩
  | (show (0 : Int) < _; first | decide | assumption | omega)
  | exact Or.inl ⟨by omega, by omega⟩
  | exact Or.inr ⟨by omega, by omega⟩
  | exact ⟨by decide, by decide, by decide⟩
  | exact log2_lt (by omega) (by omega)
  | exact ⟨by omega, by omega⟩)
local macro_rules | `(tactic| walk_at "ty") => `(tactic| first
  | exact ty_int | exact ty_bl | exact ty_str | exact ty_non
  | exact ty_L (by assumption) | exact ty_T (by assumption)
  | exact ty_L (SqL.of (by assumption)) | exact ty_T (SqT.of (by assumption)))
local macro_rules | `(tactic| walk_at "kit") => `(tactic| first
  | exact k_ii | exact k_ib | exact k_is | exact k_il | exact k_it
  | exact k_bb | exact k_bi | exact k_bs | exact k_bl | exact k_bt
  | exact k_ss | exact k_sb | exact k_si | exact k_sl | exact k_st
  | exact k_ll | exact k_lb | exact k_li | exact k_ls | exact k_lt
  | exact k_tt | exact k_tb | exact k_ti | exact k_ts | exact k_tl
  | exact k_nn | exact k_ni | exact k_ns | exact k_nl | exact k_nt)
local macro_rules | `(tactic| walk_at "s1") => `(tactic| first
  | with_reducible refine w_seq ?_
  | with_reducible refine w_set ?_
  | with_reducible refine w_op ?_
  | ((with_reducible refine' w_var ?h1 ?_); (case h1 => rfl))
  | with_reducible refine w_c ?_
  | with_reducible refine w_cb ?_
  | with_reducible refine w_cons ?_
  | with_reducible refine w_nil ?_
  | with_reducible refine w_I0 ?_
  | ((with_reducible refine' w_I ?c1 ?_); case c1 => walk_at "cond")
  | with_reducible refine w_ret ?_
  | with_reducible refine w_next ?_
  | with_reducible refine w_ifS ?_
  | with_reducible refine w_test ?_
  | with_reducible refine w_tB ?_
  | with_reducible refine w_k ?_
  | with_reducible refine w_eqI ?_
  | with_reducible refine w_neI ?_
  | with_reducible refine w_eqS ?_
  | with_reducible refine w_neS ?_
  | with_reducible refine w_and ?_
  | with_reducible refine w_or ?_
  | with_reducible refine w_not ?_
  | with_reducible refine w_andV ?_
  | with_reducible refine w_orV ?_
  | with_reducible refine w_notV ?_
  | with_reducible refine w_ifE ?_
  | with_reducible refine w_true ?_
  | with_reducible refine w_false ?_
  | with_reducible refine w_ntrue ?_
  | with_reducible refine w_nfalse ?_
  | with_reducible refine w_call ?_
  | with_reducible refine c_int ?_
  | with_reducible refine c_abs ?_
  | with_reducible refine c_max ?_
  | with_reducible refine c_min ?_
  | with_reducible refine w_drop ?_
  | with_reducible refine w_sfld ?_
  | with_reducible refine w_meth ?_
  | with_reducible refine w_make ?_
  | with_reducible refine w_prop ?_
  | with_reducible refine w_callK ?_
  | with_reducible refine w_callN ?_
  | with_reducible refine w_star ?_
  | with_reducible refine w_gcons ?_
  | with_reducible refine w_gname ?_
  | with_reducible refine w_gnil ?_
  | with_reducible refine w_retN ?_
  | with_reducible refine w_tup ?_
  | with_reducible refine w_lst ?_
  | with_reducible refine w_fld ?_
  | with_reducible refine w_bm ?_
  | with_reducible refine w_bm0 ?_
  | with_reducible refine w_forL ?_
  | with_reducible refine w_forT ?_
  | with_reducible refine w_forS ?_
  | with_reducible refine w_forR ?_
  | with_reducible refine w_lcR ?_
  | with_reducible refine w_lcL ?_
  | with_reducible refine w_lcT ?_
  | with_reducible refine w_isN ?_
  | with_reducible refine w_notN ?_
  | with_reducible refine w_asg ?_
  | with_reducible refine w_gsub ?_
  | ((with_reducible refine' w_aug ?h1 ?_); (case h1 => rfl))
  | with_reducible refine w_augS ?_
  | with_reducible refine w_ipI ?_
  | with_reducible refine w_un ?_
  | with_reducible refine w_U ?_
  | ((with_reducible refine' w_iteF ?f1 ?_); case f1 => (first | (intro h; cases h; done) | decide))
  | ((with_reducible refine' w_iteT ?f1 ?_); case f1 => rfl)
  | ((with_reducible refine' w_iteNF ?f1 ?_); case f1 => rfl)
  | ((with_reducible refine' w_iteNT ?f1 ?_); case f1 => (first | (intro h; cases h; done) | decide))
  | ((with_reducible refine' c_isi ?t1 ?k1 ?_); (case t1 => walk_at "ty"); (case k1 => walk_at "kit"))
  | ((with_reducible refine' w_eq ?e1 ?_); case e1 => rfl)
  | ((with_reducible refine' w_ne ?e1 ?_); case e1 => rfl)
  | walk_at "u1")
local macro_rules | `(tactic| walk_at "s") => `(tactic| repeat walk_at "s1")
local macro_rules | `(tactic| walk_at "mem") => `(tactic| first | with_reducible exact List.mem_cons_self .. | ((with_reducible refine' List.mem_cons_of_mem _ ?q); (case q => walk_at "mem")) | assumption | ((with_reducible refine' List.mem_append_right _ ?q); (case q => walk_at "mem")) | (exact List.mem_append_left _ (by assumption)))
local macro_rules | `(tactic| walk_at "pk") => `(tactic| first | with_reducible exact Pk.here | ((with_reducible refine' Pk.there ?q); (case q => walk_at "pk")) | ((with_reducible refine' Pk.app ?q); (case q => walk_at "pk")))
local macro_rules | `(tactic| walk_at "pkb") => `(tactic| first | with_reducible exact PkB.here | ((with_reducible refine' PkB.there ?q); (case q => walk_at "pkb")) | ((with_reducible refine' PkB.app ?q); (case q => walk_at "pkb")))
local macro_rules | `(tactic| walk_at "spl") => `(tactic| first | with_reducible exact Spl.nil | ((with_reducible refine' Spl.cons ?h ?t); (case h => walk_at "pk"); (case t => walk_at "spl")) | ((with_reducible refine' Spl.blk ?h ?t); (case h => walk_at "pkb"); (case t => walk_at "spl")))
local macro_rules | `(tactic| walk_at "sbx") => `(tactic| first | with_reducible exact Sb.refl | with_reducible exact Sb.nil | with_reducible exact Sb.left | ((with_reducible refine' Sb.cons ?h ?t); (case h => walk_at "pk"); (case t => walk_at "sbx")) | ((with_reducible refine' Sb.blk ?h ?t); (case h => walk_at "pkb"); (case t => walk_at "sbx")) | ((with_reducible refine' Sb.drop ?q); (case q => walk_at "sbx")) | ((with_reducible refine' Sb.right ?q); (case q => walk_at "sbx")))
local macro_rules | `(tactic| walk_at "hd") => `(tactic| first | assumption | exact Hd.sb (by assumption) (by walk_at "sbx"))
local macro_rules | `(tactic| walk_at "sq") => `(tactic| first
  | assumption
  | exact Hd.sqL (by assumption) (by walk_at "mem")
  | exact Hd.sqT (by assumption) (by walk_at "mem")
  | exact Hd.sqF (by assumption) (by walk_at "mem")
  | (refine .inl ?_; walk_at "sq")
  | (refine .inr ?_; walk_at "sq"))
local macro_rules | `(tactic| walk_at "at") => `(tactic| first | rfl | assumption | exact atI_nat (by assumption))
local macro_rules | `(tactic| walk_at "dn1") => `(tactic| first
  | exact Dn.int | exact Dn.str | exact Dn.non | exact Dn.bl | assumption
  | ((refine' Dn.tp ?a1 ?m1 ?l1 ?p1); (case a1 => assumption); (case m1 => walk_at "mem"); (case l1 => (simp only [List.length_cons, List.length_nil]; omega)); (case p1 => walk_at "dns"))
  | ((refine' Dn.lt ?a1 ?m1 ?l1 ?p1); (case a1 => assumption); (case m1 => walk_at "mem"); (case l1 => (simp only [List.length_cons, List.length_nil]; omega)); (case p1 => walk_at "dns")))
local macro_rules | `(tactic| walk_at "dns") => `(tactic| first | exact Paired.nil | exact Dn.ints | ((refine' Paired.cons ?a1 ?b1); (case a1 => walk_at "dn1"); (case b1 => walk_at "dns")))
local macro_rules | `(tactic| walk_at "g1") => `(tactic| first
  | ((with_reducible refine' g_ixI ?h1 ?h2 ?h3 ?_); (case h1 => assumption); (case h2 => walk_at "mem"); (case h3 => omega); intro z hz)
  | ((with_reducible refine' g_ixIT ?h1 ?h2 ?h3 ?_); (case h1 => assumption); (case h2 => walk_at "mem"); (case h3 => omega); intro z hz)
  | ((with_reducible refine' g_setI ?h1 ?h2 ?h3 ?_); (case h1 => assumption); (case h2 => walk_at "pk"); (case h3 => omega); intro H2 hh2)
  | ((with_reducible refine' w_ixL ?h1 ?h2 ?_); (case h1 => walk_at "sq"); (case h2 => walk_at "at"))
  | ((with_reducible refine' w_ixT ?h1 ?h2 ?_); (case h1 => walk_at "sq"); (case h2 => walk_at "at"))
  | ((with_reducible refine' w_ixAny ?h1 ?h2 ?_); (case h1 => walk_at "sq"); (case h2 => walk_at "at"))
  | ((with_reducible refine' c_lenA ?h1 ?_); (case h1 => walk_at "sq"))
  | ((with_reducible refine' c_isi ?t1 ?k1 ?_); (case t1 => first | exact ty_T (by walk_at "sq") | exact ty_L (by walk_at "sq")); (case k1 => walk_at "kit"))
  | ((with_reducible refine' g_lst ?h1 ?h2 ?_); (case h1 => assumption); (case h2 => walk_at "sz"); intro p H2 hh2)
  | ((with_reducible refine' g_tup ?h1 ?h2 ?_); (case h1 => assumption); (case h2 => walk_at "sz"); intro p H2 hh2)
  | ((with_reducible refine' g_dict ?h1 ?_); (case h1 => assumption); intro p H2 hh2)
  | ((with_reducible refine' g_listL ?h1 ?h2 ?_); (case h1 => assumption); (case h2 => walk_at "sq"); intro p H2 hh2)
  | ((with_reducible refine' g_listT ?h1 ?h2 ?_); (case h1 => assumption); (case h2 => walk_at "sq"); intro p H2 hh2)
  | ((with_reducible refine' g_tupL ?h1 ?h2 ?_); (case h1 => assumption); (case h2 => walk_at "sq"); intro p H2 hh2)
  | ((with_reducible refine' g_set ?h1 ?h2 ?h3 ?_); (case h1 => assumption); (case h2 => walk_at "pk"); (case h3 => first | rfl | assumption | exact Evl.ixN_nat (by first | omega | (simp only [List.length_cons, List.length_nil]; omega))); intro H2 hh2)
  | ((with_reducible refine' g_kbm ?h1 ?h2 ?_); (case h1 => assumption); (case h2 => walk_at "mem"))
  | ((with_reducible refine' g_kbm0 ?h1 ?h2 ?_); (case h1 => assumption); (case h2 => walk_at "mem"))
  | ((with_reducible refine' g_app ?h1 ?h2 ?h3 ?_); (case h1 => assumption); (case h2 => walk_at "pk"); (case h3 => walk_at "sz"); intro H2 hh2)
  | ((with_reducible refine' g_kapp ?h1 ?h2 ?h3 ?_); (case h1 => assumption); (case h2 => walk_at "pk"); (case h3 => walk_at "sz"); intro H2 hh2)
  | ((with_reducible refine' g_fld ?h1 ?h2 ?h3 ?h4 ?h5 ?_); (case h1 => assumption); (case h2 => walk_at "mem"); (case h3 => assumption); (case h4 => assumption); (case h5 => rfl))
  | ((with_reducible refine' g_sfld ?h1 ?h2 ?h3 ?h4 ?h5 ?_); (case h1 => assumption); (case h2 => walk_at "pk"); (case h3 => assumption); (case h4 => assumption); (case h5 => decide); intro H2 hh2)
  | ((with_reducible refine' g_meth ?h1 ?h2 ?h3 ?_); (case h1 => assumption); (case h2 => walk_at "mem"); (case h3 => rfl))
  | ((with_reducible refine' g_prop ?h1 ?h2 ?_); (case h1 => assumption); (case h2 => walk_at "mem"))
  | ((with_reducible refine' g_make ?h1 ?_); (case h1 => assumption); intro x H2 hh2)
  | ((with_reducible refine' g_cat ?h1 ?h2 ?h3 ?h4 ?_); (case h1 => assumption); (case h2 => walk_at "mem"); (case h3 => walk_at "mem"); (case h4 => walk_at "sz"); intro p H2 hh2)
  | ((with_reducible refine' g_inT ?h1 ?h2 ?h3 ?h4 ?h5 ?_); (case h1 => assumption); (case h2 => walk_at "mem"); (case h3 => rfl); (case h4 => rfl); (case h5 => rfl)))
local macro_rules | `(tactic| walk_at "gs") => `(tactic| repeat first | walk_at "s1" | walk_at "g1")
local macro_rules | `(tactic| walk_at "ite") => `(tactic| first
  | ((with_reducible refine' w_iteT ?h1 ?_); (case h1 => omega))
  | ((with_reducible refine' w_iteF ?h1 ?_); (case h1 => omega))
  | (with_reducible refine w_ite ?_ ?_ <;> intro hq)
  | ((with_reducible refine' w_iteNT ?h1 ?_); (case h1 => omega))
  | ((with_reducible refine' w_iteNF ?h1 ?_); (case h1 => omega))
  | (with_reducible refine w_iteN ?_ ?_ <;> intro hq))
local macro_rules | `(tactic| walk_at "go") => `(tactic| repeat' first | walk_at "s1" | walk_at "g1" | walk_at "ite")
local macro_rules | `(tactic| walk_at "g1") => `(tactic| first
  | ((with_reducible refine' g_take1 ?h1 ?h2 ?h3 ?h4 ?_); (case h1 => assumption); (case h2 => walk_at "spl"); (case h3 => omega); (case h4 => omega); intro k H2 hk1 hh2)
  | ((with_reducible refine' g_take ?h1 ?h2 ?h4 ?_); (case h1 => assumption); (case h2 => walk_at "spl"); (case h4 => omega); intro k H2 hk1 hh2)
  | ((with_reducible refine' g_betweenN ?h1 ?h2 ?h5 ?h3 ?h4 ?_); (case h1 => assumption); (case h2 => walk_at "spl"); (case h5 => omega); (case h3 => omega); (case h4 => omega); intro k H2 hk1 hk2 hh2)
  | ((with_reducible refine' g_between ?h1 ?h2 ?h3 ?h4 ?_); (case h1 => assumption); (case h2 => walk_at "spl"); (case h3 => omega); (case h4 => omega); intro k H2 hk1 hk2 hh2)
  | ((with_reducible refine' g_size ?h1 ?h2 ?h3 ?h4 ?_); (case h1 => assumption); (case h2 => walk_at "spl"); (case h3 => omega); (case h4 => omega); intro k H2 hk1 hh2)
  | ((with_reducible refine' g_word ?h1 ?h2 ?_); (case h1 => assumption); (case h2 => walk_at "spl"); intro k H2 hk1 hh2))
local macro_rules | `(tactic| walk_at "g1") => `(tactic| first | with_reducible refine w_sl ?_ | with_reducible refine w_part ?_ | with_reducible refine w_noPart ?_ | with_reducible refine w_exI ?_)
local macro_rules | `(tactic| walk_at "g1") => `(tactic| first | with_reducible refine w_din ?_ | with_reducible refine w_dnotin ?_ | with_reducible refine w_dget ?_ | with_reducible refine w_dput ?_ | with_reducible refine w_ddel ?_ | with_reducible refine w_dpop ?_)
section
variable {P : Program} {w : World} {K : PySem.W.Frag} {mg : Str → Option Value} {base : Heap} {aREG aOPS : Addr}
theorem cut_last {xs : List V} : cutV xs none (some (-1)) = xs.take (xs.length - 1) := by
  unfold cutV
  rw [show HT.sIx xs.length 0 none = 0 from rfl, List.drop_zero, Nat.sub_zero]
  have e : HT.sIx xs.length xs.length (some (-1)) = xs.length - 1 := by
    show (if (-1 : Int) < 0 then ((-1 : Int) + (xs.length : Int)).toNat else min ((-1 : Int)).toNat xs.length) = xs.length - 1
    rw [if_pos (by decide)]
    omega
  rw [e]
theorem at_last {xs : List V} {v : V} (h : xs[xs.length - 1]? = some v) : atI xs (-1) = some v := by
  have hl := (List.getElem?_eq_some_iff.mp h).1
  unfold atI ixN
  rw [if_neg (by decide), if_pos (by omega)]
  rw [show ((-1 : Int) + (xs.length : Int)).toNat = xs.length - 1 by omega]
  exact h
theorem g_slLast {K : PySem.W.Frag} {H : Hp} {Q : VK} {L : List Cell} {a : Addr} {xs : List V} (hh : Hd H L) (h : SqL K H a xs) (q : ∀ p H2, Hd H2 (lstC p (xs.take (xs.length - 1)) :: L) → Q (.ref p) H2) : rSlL K (.ref a) none (some (-1)) H Q :=
  ⟨a, xs, rfl, h, fun p hp => q p _ (hh.newL (cut_last (xs := xs) ▸ New.of hp))⟩
theorem take_natV (ps : List Nat) (n : Nat) : (natV ps).take n = natV (ps.take n) := List.map_take.symm
theorem nat_at {ps : List Nat} {i k : Nat} (h : ps[i]? = some k) : (natV ps)[i]? = some (.int (k : Int)) := by unfold natV; rw [List.getElem?_map, h]; rfl
theorem rep_one {v : V} : ∀ n : Nat, (List.replicate n [v]).flatten = List.replicate n v
  | 0 => rfl
  | n + 1 => by rw [List.replicate_succ, List.flatten_cons, rep_one n, List.replicate_succ]; rfl
theorem hd_one {Y Y' Cs : List Cell} {c : Cell} {H : Hp} (h : c ∈ Cs) (hh : Hd H (Y ++ (Y' ++ Cs))) : Hd H (Y' ++ [c]) := by
  obtain ⟨A, B, rfl⟩ := List.append_of_mem h
  exact Hd.sb hh (by walk_at "sbx")
/-- the calls of the race -/
theorem call_at {ps : List Nat} {low last : Nat} {l : List (Addr × Deed)} {t tp : Addr} {m i : Nat} {x : V} (h2 : 2 ≤ ps.length) (hlast : ps[ps.length - 1]? = some last) (hl : l.length = ps.length - 1) (hd : deedsD l = (ps.take (ps.length - 1)).map fun k => Deed.enter k 7 true)
    (hx : ((refsD l ++ [.ref t]) ++ List.replicate (m + 1) (V.ref tp))[i]? = some x) : ∃ t' d, x = .ref t' ∧ tupC t' (dV d) ∈ cellsD l ++ [tupC t (dV (.enter last low true)), tupC tp (dV .pick)] ∧ i < ps.length + m + 1 ∧ (i < ps.length → d = .enter (ps.getD i 0) (simP ps.length low i) true) ∧ (ps.length ≤ i → d = .pick) := by
  have hlr : (refsD l).length = l.length := List.length_map ..
  have hil := (List.getElem?_eq_some_iff.mp hx).1
  rw [List.length_append, List.length_append, List.length_replicate, hlr, hl] at hil
  have hil : i < ps.length - 1 + 1 + (m + 1) := hil
  by_cases h1 : i < ps.length - 1
  · have hi : i < l.length := by omega
    rw [List.getElem?_append_left (by rw [List.length_append, hlr]; exact Nat.lt_succ_of_lt hi), List.getElem?_append_left (by rw [hlr]; exact hi), List.getElem?_map, List.getElem?_eq_getElem hi] at hx
    have hdi : (deedsD l)[i]? = ((ps.take (ps.length - 1)).map fun k => Deed.enter k 7 true)[i]? := by rw [hd]
    rw [List.getElem?_map, List.getElem?_eq_getElem hi, List.getElem?_map, List.getElem?_take, if_pos h1, List.getElem?_eq_getElem (show i < ps.length by omega)] at hdi
    have hdi : l[i].2 = Deed.enter ps[i] 7 true := Option.some.inj hdi
    refine ⟨l[i].1, l[i].2, (Option.some.inj hx).symm, List.mem_append_left _ (List.mem_map.mpr ⟨l[i], List.getElem_mem hi, rfl⟩), by omega, fun _ => ?_, fun z => by omega⟩
    rw [hdi, getD_at (List.getElem?_eq_getElem (show i < ps.length by omega)), show simP ps.length low i = 7 from if_neg (by omega)]
  · by_cases h3 : i = ps.length - 1
    · rw [List.getElem?_append_left (by rw [List.length_append, hlr]; show i < l.length + 1; omega), List.getElem?_append_right (by rw [hlr]; omega), hlr, h3, hl, Nat.sub_self] at hx
      refine ⟨t, _, (Option.some.inj hx).symm, List.mem_append_right _ (List.mem_cons_self ..), by omega, fun _ => ?_, fun z => by omega⟩
      rw [h3, getD_at hlast, show simP ps.length low (ps.length - 1) = low from if_pos (by omega)]
    · rw [List.getElem?_append_right (by rw [List.length_append, hlr]; show l.length + 1 ≤ i; omega), List.getElem?_replicate, List.length_append, hlr, hl] at hx
      rw [if_pos (by show i - (ps.length - 1 + 1) < m + 1; omega)] at hx
      exact ⟨tp, _, (Option.some.inj hx).symm, List.mem_append_right _ (List.mem_cons_of_mem _ (List.mem_cons_self ..)), by omega, fun z => by omega, fun _ => rfl⟩
/-- the members behind i calls -/
def StR (ps : List Nat) (low i : Nat) (S : AgS) : Prop := (i ≤ ps.length → InS ps (simF ps.length low 0) i S) ∧ ∀ t, i = ps.length + t → t ≤ 6 + ps.length - low → InS ps (simF ps.length low t) ps.length S
theorem StR.step {ps : List Nat} {low last i : Nat} {S S' : AgS} {d : Deed} {w : Option Nat} (hlow : low ≤ 7) (h2 : 2 ≤ ps.length) (h8 : ps.length ≤ 8) (hpw : ps.Pairwise (· < ·)) (hlt : ∀ k ∈ ps, k < 8) (hlast : ps[ps.length - 1]? = some last) (h : StR ps low i S) (hi : i < ps.length + (6 + ps.length - low) + 1)
    (he : i < ps.length → d = .enter (ps.getD i 0) (simP ps.length low i) true) (hp : ps.length ≤ i → d = .pick) (ho : Out S d (whoV w) S') : StR ps low (i + 1) S' ∧ rowOf d w = rowAt ps low i := by
  have hnd : ps.Nodup := hpw.imp fun {a b} z => Nat.ne_of_lt z
  by_cases hin : i < ps.length
  · have hd := he hin
    subst hd
    have hk := List.getElem?_eq_getElem hin
    have hS' : S' = upS S (ps.getD i 0) (some (newM (simP ps.length low i) true)) := by
      rcases ho with ⟨z, _⟩ | ⟨_, _, e⟩
      · cases z
      · exact e
    have hen : InS ps (simF ps.length low 0) (i + 1) S' := by
      rw [hS', ← simF_new h2]
      exact (h.1 (by omega)).enter hnd (by rw [getD_at hk]; exact hk)
    refine ⟨⟨fun _ => hen, fun t ht _ => ?_⟩, ?_⟩
    · have : t = 0 := by omega
      subst this
      have : i + 1 = ps.length := by omega
      rw [← this] at hen ⊢
      exact hen
    · unfold rowAt
      rw [if_pos hin]
      rfl
  · have hd := hp (by omega)
    subst hd
    have hIn := h.2 (i - ps.length) (by omega) (by omega)
    have pk : ∀ k, IsPick S k → w = some k ∧ S' = pickS S k := fun k hk => by
      rcases ho with ⟨_, ⟨e, _⟩ | ⟨p, hp, e1, e2⟩⟩ | ⟨z, _⟩
      · have := hk.1
        rw [e] at this
        cases this
      · have := pick_one hp hk
        subst this
        exact ⟨who_int e1, e2⟩
      · exact absurd rfl z
    by_cases hm : i - ps.length < 6 + ps.length - low
    · obtain ⟨k, hk, hpick, hnext⟩ := hIn.race hpw hlt h2 (by omega) (by omega) (by omega)
      obtain ⟨rfl, rfl⟩ := pk k hpick
      refine ⟨⟨fun z => by omega, fun t ht _ => ?_⟩, ?_⟩
      · have : t = i - ps.length + 1 := by omega
        subst this
        exact hnext
      · unfold rowAt
        rw [if_neg hin, if_pos hm, getD_at hk]
        rfl
    · have e : i - ps.length = 6 + ps.length - low := by omega
      rw [e] at hIn
      obtain ⟨rfl, rfl⟩ := pk last (hIn.won hpw hlt h2 (by omega) (by omega) hlast)
      refine ⟨⟨fun z => by omega, fun t ht ht2 => by omega⟩, ?_⟩
      unfold rowAt
      rw [if_neg hin, if_neg hm, getD_at hlast]
      rfl
section
variable {C : Addr}
def sp_reaches : Sp := fun vs H Q _ => ∃ (a : Addr) (ps : List Nat) (low : Nat) (R : List Cell), vs = [.ref a, .int low] ∧ low ≤ 7 ∧ 2 ≤ ps.length ∧ ps.length ≤ 8 ∧ ps.Pairwise (· < ·) ∧ (∀ k ∈ ps, k < 8) ∧ Hd H (lstC a (natV ps) :: R) ∧ ∀ H', Hd H' (lstC a (natV ps) :: R) → Q (.bl true) H'
theorem c_reaches (T : Txt K mg aREG aOPS) (L : AgC K C) (gA : ∃ u, mg "Ages" = some u ∧ RelV (.ref C) u) (d : DefAt K mg "_law_reaches" s__law_reaches) (c_Ages : C8.Mak P w K mg base 1 "Ages" C (sp_agI C) []) (c__law_logged : C8.Cal P w K mg base 6 "_law_logged" (sp_logged K C) []) (c__law_alike : C8.Cal P w K mg base 3 "_law_alike" (sp_alike K 3) [])
    (c_longest_wait : C8.Cal P w K mg base 4 "longest_wait" (sp_pwait K) []) (c_bound2 : CalS P w K mg base 4 C "bound" sp_bound []) : C8.Cal P w K mg base 7 "_law_reaches" sp_reaches [] := by
  refine mk d sc__law_reaches (fun _ _ _ _ _ _ us hl => match us, hl with | [_, _], _ => rfl) (fun vs H Q E h => ?_) (fun fa cdv A outer s H vs Q E hr h => ?_)
  · obtain ⟨a, ps, low, R, rfl, _⟩ := h
    rfl
  · obtain ⟨a, ps, low, R, rfl, hlow, h2, h8, hpw, hlt, hh, q⟩ := h
    have hnl := natV_len ps
    have hnd : ps.Nodup := hpw.imp fun {a b} z => Nat.ne_of_lt z
    obtain ⟨last, hlast⟩ : ∃ k, ps[ps.length - 1]? = some k := ⟨_, List.getElem?_eq_getElem (show ps.length - 1 < ps.length by omega)⟩
    have hl8 := hlt last (List.mem_of_getElem? hlast)
    have hat : atI (natV ps) (-1) = some (.int (last : Int)) := at_last (by rw [hnl]; exact nat_at hlast)
    refine ⟨_, (pss_cons (ps_set (i := 2) sc__law_reaches.nd rfl (Or.inr rfl) (Wk.pe_mk0 c_Ages hr (by first | decide | omega) rfl))
  (pss_cons (ps_set (i := 3) sc__law_reaches.nd rfl (Or.inl rfl) (pe_op op_cat (pe_lc (own := [("pid", 7)]) rfl sc__law_reaches.nd (pi_list (pe_slice sl_list (pv 0) po_none (po_some (pe_un un_neg pe_int)))) (blkOk_by (own := [("pid", 7)]) (N := nm__law_reaches) (sc := defScope s__law_reaches) (by decide +kernel)) (fun _ _ _ _ _ => (pg_name (i := 7) sc__law_reaches.nd rfl (Or.inl rfl))) (fun _ _ _ _ _ => pts_nil) (fun _ _ _ _ _ => (pe_tup (pa_cons pe_str (pa_cons (pv 7) (pa_cons pe_int (pa_cons pe_bl pa_nil))))))) (pe_lst (pa_cons (pe_tup (pa_cons pe_str (pa_cons (pe_ix ix_list (pv 0) (pe_un un_neg pe_int) (fun _ _ => rfl)) (pa_cons (pv 1) (pa_cons pe_bl pa_nil))))) pa_nil))))
  (pss_cons (ps_set (i := 4) sc__law_reaches.nd rfl (Or.inl rfl) (pe_op op_add (pe_op op_sub pe_int (pv 1)) (pe_callB Wk.b_len (by rfl) T.b_len (by decide +kernel) (pa_cons (pv 0) pa_nil))))
  (pss_cons (ps_setLc (i := 5) (own := [("call", 6)]) rfl sc__law_reaches.nd rfl rfl (sw_true rfl rfl rfl (by decide +kernel)) (pi_list (pe_op op_cat (pv 3) (pe_op op_rep (pe_lst (pa_cons (pe_tup (pa_cons pe_str pa_nil)) pa_nil)) (pe_op op_add (pv 4) pe_int)))) (blkOk_by (own := [("call", 6)]) (N := nm__law_reaches) (sc := defScope s__law_reaches) (by decide +kernel)) (fun _ _ _ _ _ => (pg_name (i := 6) sc__law_reaches.nd rfl (Or.inl rfl))) (fun _ _ _ _ _ => pts_nil) (fun _ _ _ _ _ => (C8.pe_c c__law_logged hr (by first | decide | omega) rfl (pa_cons (pv 2) (pa_cons (pv 6) pa_nil)))))
  (pss_cons (ps_if (PW.pt (pw_or (pt_not (pt_val (C8.pe_c c__law_alike hr (by first | decide | omega) rfl (pa_cons (pe_tup (pa_cons pe_str (pa_cons (pe_ix ix_list (pv 0) (pe_un un_neg pe_int) (fun _ _ => rfl)) pa_nil))) (pa_cons (pe_ix ix_list (pv 5) (pe_un un_neg pe_int) (fun _ _ => rfl)) pa_nil))))) (pw_or1 (pt_not (pt_val (C8.pe_c c__law_alike hr (by first | decide | omega) rfl (pa_cons (pv 4) (pa_cons (Wk.pe_st c_bound2 hr (by first | decide | omega) (C8.pe_gc rfl gA) (pa_cons (pv 1) (pa_cons (pe_callB Wk.b_len (by rfl) T.b_len (by decide +kernel) (pa_cons (pv 0) pa_nil)) pa_nil))) pa_nil))))))))
    (pss_one (ps_ret pe_bl))
    pss_nil)
  (pss_one (ps_ret (pe_and (C8.pe_c c__law_alike hr (by first | decide | omega) rfl (pa_cons (pv 4) (pa_cons (C8.pe_c c_longest_wait hr (by first | decide | omega) rfl (pa_cons (pv 5) (pa_cons (pe_ix ix_list (pv 0) (pe_un un_neg pe_int) (fun _ _ => rfl)) pa_nil))) pa_nil))) (pe_one (C8.pe_c c__law_alike hr (by first | decide | omega) rfl (pa_cons pe_int (pa_cons (C8.pe_c c_longest_wait hr (by first | decide | omega) rfl (pa_cons (pe_slice sl_list (pv 5) po_none (po_some (pe_callB Wk.b_len (by rfl) T.b_len (by decide +kernel) (pa_cons (pv 0) pa_nil)))) (pa_cons (pe_ix ix_list (pv 0) (pe_un un_neg pe_int) (fun _ _ => rfl)) pa_nil))) pa_nil)))))))))))), ?_⟩
    walk_at "gs"
    rename_i o H1 h1
    refine ⟨o, _, rfl, h1, fun Z0 H2 b0 h2' => ⟨rfl, ?_⟩⟩
    have b0' := b0
    obtain ⟨e0, W0, tb0, rfl⟩ := b0'
    have h3 : Hd H2 (agI o C e0 :: (W0 ++ (lstC a (natV ps) :: R))) := h2'
    clear hh h1 h2'
    walk_at "gs"
    refine g_slLast h3 (h3.sqL (by walk_at "mem")) fun ph H4 h4 => ?_
    rw [hnl, take_natV] at h4
    have htl : (ps.take (ps.length - 1)).length = ps.length - 1 := by rw [List.length_take]; omega
    have hnl2 : (natV (ps.take (ps.length - 1))).length = ps.length - 1 := (natV_len _).trans htl
    clear h3
    refine g_lcL h4 (h4.sqL (by walk_at "mem")) (fun i D H => ∃ l : List (Addr × Deed), l.length = i ∧ deedsD l = (ps.take i).map (fun k => Deed.enter k 7 true) ∧ Hd H (lstC D (refsD l) :: (cellsD l ++ (lstC ph (natV (ps.take (ps.length - 1))) :: agI o C e0 :: (W0 ++ (lstC a (natV ps) :: R))))))
      (fun D H hd => ⟨[], rfl, rfl, hd⟩) (fun i D H _ ⟨l, _, _, h⟩ => h.sqL (by walk_at "mem")) ?_ ?_
    · rintro i x D H5 hx ⟨l, hl, hd, h5⟩
      have hi : i < ps.length - 1 := by rw [← hnl2]; exact (List.getElem?_eq_some_iff.mp hx).1
      obtain ⟨k, hk⟩ : ∃ k, ps[i]? = some k := ⟨_, List.getElem?_eq_getElem (show i < ps.length by omega)⟩
      have hxk : x = .int (k : Int) := by
        have e : (natV (ps.take (ps.length - 1)))[i]? = some (.int (k : Int)) := nat_at (by rw [List.getElem?_take, if_pos hi]; exact hk)
        rw [e] at hx
        exact (Option.some.inj hx).symm
      subst hxk
      have hlr : (refsD l).length = l.length := List.length_map ..
      clear h4
      walk_at "gs"
      rename_i t H6 h6 H7 h7
      refine ⟨l ++ [(t, .enter k 7 true)], by rw [List.length_append, hl]; rfl, ?_, ?_⟩
      · rw [show deedsD (l ++ [(t, Deed.enter k 7 true)]) = deedsD l ++ [Deed.enter k 7 true] from List.map_append, hd, tk_succ hk, List.map_append]
        rfl
      · rw [show refsD (l ++ [(t, Deed.enter k 7 true)]) = refsD l ++ [.ref t] from List.map_append, show cellsD (l ++ [(t, Deed.enter k 7 true)]) = cellsD l ++ [tupC t (dV (.enter k 7 true))] from List.map_append]
        have p : (lstC D (refsD l ++ [V.ref t]) :: tupC t (dV (.enter k 7 true)) :: (cellsD l ++ (lstC ph (natV (ps.take (ps.length - 1))) :: agI o C e0 :: (W0 ++ (lstC a (natV ps) :: R))))).Perm (lstC D (refsD l ++ [V.ref t]) :: ((cellsD l ++ [tupC t (dV (.enter k 7 true))]) ++ (lstC ph (natV (ps.take (ps.length - 1))) :: agI o C e0 :: (W0 ++ (lstC a (natV ps) :: R))))) := by
          refine List.Perm.cons _ ?_
          rw [List.append_assoc]
          exact List.perm_middle.symm
        exact (show Hd H7 (lstC D (refsD l ++ [V.ref t]) :: tupC t [V.str (Str.ofString "enter"), V.int (k : Int), V.int 7, V.bl true] :: (cellsD l ++ (lstC ph (natV (ps.take (ps.length - 1))) :: agI o C e0 :: (W0 ++ (lstC a (natV ps) :: R))))) from Hd.sb h7 (by walk_at "sbx")).perm p
    · rintro D H5 ⟨l, hl, hd, h5⟩
      rw [hnl2] at hl hd
      have hlr : (refsD l).length = l.length := List.length_map ..
      clear h4
      walk_at "gs"
      rename_i t H6 h6 pl H7 h7 p3 H8 h8' tp H9 h9 p5 H10 h10
      clear h5 h6 h7 h8' h9
      have hm : (6 - (low : Int) + ((natV ps).length : Int) + 1).toNat = (6 + ps.length - low) + 1 := by rw [hnl]; omega
      refine g_rep h10 (by walk_at "mem") (by rw [hnl]; omega) (by rw [hnl]; omega) (by rw [hm]; exact Nat.le_trans (show 1 * (6 + ps.length - low + 1) ≤ 20 by omega) (by decide)) fun p6 H11 h11 => ?_
      rw [hm, rep_one] at h11
      refine g_cat h11 (by walk_at "mem") (by walk_at "mem") (by rw [List.length_append, List.length_replicate, hlr, hl]; exact Nat.le_trans (show ps.length - 1 + 1 + (6 + ps.length - low + 1) ≤ 40 by omega) (by decide)) fun pc H12 h12 => ?_
      generalize hxs : (refsD l ++ [V.ref t]) ++ List.replicate (6 + ps.length - low + 1) (V.ref tp) = xs0 at h12
      have hx0 : xs0.length = ps.length + (6 + ps.length - low) + 1 := by
        rw [← hxs, List.length_append, List.length_append, List.length_replicate, hlr, hl]
        show ps.length - 1 + 1 + _ = _
        omega
      generalize hCs : cellsD l ++ [tupC t (dV (.enter last low true)), tupC tp (dV .pick)] = Cs
      have h13 : Hd H12 (lstC pc xs0 :: (cellsD l ++ (tupC t [V.str (Str.ofString "enter"), V.int (last : Int), V.int (low : Int), V.bl true] :: tupC tp [V.str (Str.ofString "pick")] :: agI o C e0 :: (W0 ++ (lstC a (natV ps) :: R))))) := Hd.sb h12 (by walk_at "sbx")
      have h14 : Hd H12 (lstC pc xs0 :: (Cs ++ (agI o C e0 :: (W0 ++ (lstC a (natV ps) :: R))))) := by
        rw [← hCs, List.append_assoc]
        exact h13
      clear h10 h11 h12 h13
      refine g_lcL h14 (h14.sqL (by walk_at "mem")) (fun i D H => ∃ (S : AgS) (Z : List Cell) (xs : List V) (Y : List Cell), AgB C o S Z ∧ StR ps low i S ∧ xs.length = i ∧ LogIn K (rowsTo ps low i) xs (Y ++ Cs) ∧ Hd H (lstC D xs :: (Z ++ (Y ++ (lstC pc xs0 :: (Cs ++ (lstC a (natV ps) :: R)))))))
        (fun D H hD => ⟨_, agI o C e0 :: W0, [], [], b0, ⟨fun _ => InS.nil _ _, fun t ht _ => absurd ht (by omega)⟩, rfl, fun H _ => .nil, Hd.sb (A := lstC D [] :: agI o C e0 :: (W0 ++ (lstC pc xs0 :: (Cs ++ (lstC a (natV ps) :: R))))) hD (by walk_at "sbx")⟩) (fun i D H _ ⟨S, Z, xs, Y, _, _, _, _, h⟩ => h.sqL (by walk_at "mem")) ?_ ?_
      · rintro i x D H5 hx ⟨S, Z, xs, Y, hb, hSt, hxl, hY, h5⟩
        rw [← hxs] at hx
        obtain ⟨t', dd, rfl, hmem, hi, he, hp⟩ := call_at (low := low) h2 hlast hl hd hx
        rw [hCs] at hmem
        have hok : ok1 (domS S) dd := by
          by_cases hin : i < ps.length
          · have hk := List.getElem?_eq_getElem hin
            rw [he hin, getD_at hk]
            refine ⟨hlt _ (List.mem_of_getElem? hk), (by unfold simP; split <;> omega), ?_⟩
            show (S ps[i]).isSome = false
            rw [(hSt.1 (by omega)).none hnd hk]
            rfl
          · rw [hp (by omega)]
            trivial
        have haw : Awake dd := by
          by_cases hin : i < ps.length
          · rw [he hin]; rfl
          · rw [hp (by omega)]; trivial
        clear h14
        walk_at "gs"
        refine ⟨o, t', dd, S, Z, Y ++ (lstC D xs :: lstC pc xs0 :: (Cs ++ (lstC a (natV ps) :: R))), rfl, List.mem_append_right _ (List.mem_cons_of_mem _ (List.mem_cons_of_mem _ (List.mem_append_left _ hmem))), hb, hok, haw, Hd.sb h5 (by walk_at "sbx"), fun w S' Z' x' Y' H6 ho hb' hx' h6 => ?_⟩
        obtain ⟨hSt', hrow⟩ := hSt.step hlow h2 h8 hpw hlt hlast hi he hp ho
        have hxl2 : xs.length < 100 := by omega
        walk_at "gs"
        rename_i H7 h7
        refine ⟨S', Z', xs ++ [x'], Y ++ Y', hb', hSt', by rw [List.length_append, hxl]; rfl, fun H hh => ?_, (by rw [List.append_assoc]; exact Hd.sb h7 (by walk_at "sbx"))⟩
        rw [rowsTo_succ, List.map_append]
        rw [List.append_assoc] at hh
        refine Paired.snoc (hY H (Hd.sb hh (by walk_at "sbx"))) ?_
        rw [← hrow]
        exact hx' H (hd_one hmem hh)
      · rintro D H5 ⟨S, Z, xs, Y, hb, hSt, hxl, hY, h5⟩
        rw [hx0] at hxl hY
        clear h14
        obtain ⟨xl, hxx⟩ : ∃ x, xs[ps.length + (6 + ps.length - low)]? = some x := ⟨_, List.getElem?_eq_getElem (by omega)⟩
        walk_at "gs"
        rename_i pk H6 h6
        have hxat : atI xs (-1) = some xl := at_last (by rw [hxl]; exact hxx)
        refine w_ixL (h6.sqL (by walk_at "mem")) hxat ?_
        obtain ⟨dl, hdl, dnl⟩ := paired_at (hY H6 (Hd.sb h6 (by walk_at "sbx"))) hxx
        have hdl2 : dl = .tuple [.str "pick", .int (last : Int)] := by
          rw [List.getElem?_map, show rowsTo ps low (ps.length + (6 + ps.length - low) + 1) = (List.range (ps.length + (6 + ps.length - low) + 1)).map (rowAt ps low) from rfl, List.getElem?_map, List.getElem?_range (by omega)] at hdl
          have e : rowAt ps low (ps.length + (6 + ps.length - low)) = .pick (some last) := by
            unfold rowAt
            rw [if_neg (by omega), Nat.add_sub_cancel_left, if_neg (Nat.lt_irrefl _), getD_at hlast]
          have hdl := Option.some.inj hdl
          rw [e] at hdl
          exact hdl.symm
        subst hdl2
        walk_at "gs"
        refine g_alike (n := 2) (Dn.tp (n := 1) h6 (by walk_at "mem") (by simp) (.cons (Dn.sc (.str _)) (.cons (Dn.sc (.int _)) .nil))) (Dn.up (by decide) dnl) ?_
        refine ⟨true, rfl, ?_⟩
        walk_at "gs"
        refine w_st ?_
        walk_at "gs"
        refine ⟨low, ps.length, (by rw [hnl]; rfl), by omega, by omega, by omega, ?_⟩
        have hm2 : 6 - (low : Int) + (ps.length : Int) = ((6 + ps.length - low : Nat) : Int) := by omega
        rw [hnl, hm2]
        walk_at "gs"
        refine g_alike (n := 2) (Dn.sc (.int _)) (Dn.sc (.int _)) ?_
        refine ⟨true, rfl, ?_⟩
        walk_at "gs"
        have hYi : LogIn K (rowsTo ps low ps.length) (xs.take ps.length) (Y ++ Cs) := fun H hh => by
          have := paired_take ps.length (hY H hh)
          rw [← List.map_take, rowsTo_take ps low (by omega)] at this
          exact this
        refine ⟨D, last, _, xs, Y ++ Cs, Z ++ (lstC pc xs0 :: lstC a (natV ps) :: R), rfl, hl8, by rw [rowsTo_len]; omega, hY, (by rw [List.append_assoc]; exact Hd.sb h6 (by walk_at "sbx")), fun H7 h7 => ?_⟩
        rw [pw_won hnd h2 hlast]
        rw [List.append_assoc] at h7
        walk_at "gs"
        refine g_alike (n := 2) (Dn.sc (.int _)) (Dn.sc (.int _)) ?_
        clear h6
        walk_at "gs"
        refine g_slHi h7 (h7.sqL (by walk_at "mem")) fun p8 H8 h8 => ?_
        rw [hnl] at h8
        clear h7
        walk_at "gs"
        refine ⟨p8, last, _, xs.take ps.length, Y ++ Cs, lstC D xs :: (Z ++ (lstC pc xs0 :: lstC a (natV ps) :: R)), rfl, hl8, by rw [rowsTo_len]; omega, hYi, (by rw [List.append_assoc]; exact Hd.sb h8 (by walk_at "sbx")), fun H9 h9 => ?_⟩
        rw [pw_entered hnd h2 hlast]
        rw [List.append_assoc] at h9
        walk_at "gs"
        refine g_alike (n := 2) (d := .int 0) (Dn.sc (.int _)) (Dn.sc (.int _)) ?_
        exact q _ (Hd.sb h9 (by walk_at "sbx"))
end
end
end K24
set_option Elab.async false
set_option linter.all false
set_option maxRecDepth 100000
set_option maxHeartbeats 4000000
namespace K24
open PySem PySem.Spec PyProof.Rows L2 Wk
local macro_rules | `(tactic| walk_at "u1") => `(tactic| fail "no more")
local macro_rules | `(tactic| walk_at "pos") => `(tactic| first | assumption | omega | decide | (simp only [Int.ofNat_eq_natCast] at *; omega))
local macro_rules | `(tactic| walk_at "sz") => `(tactic| first
  | (simp only [List.length_cons, List.length_nil]; decide)
  | exact Evl.sz_of (by omega)
  | exact Evl.sz_lt (by omega)
  | exact Evl.sz_of (by simp only [List.length_map, List.length_append, List.length_cons, List.length_nil, List.length_replicate]; omega)
  | exact Evl.sz_lt (by simp only [List.length_map, List.length_append, List.length_cons, List.length_nil, List.length_replicate]; omega))
local macro_rules | `(tactic| walk_at "cond") => `(tactic| first
  | exact Or.inr ⟨by decide, by decide⟩
  | (show (0 : Int) < _; first | decide | assumption | omega)
  | exact Or.inl ⟨by omega, by omega⟩
  | exact Or.inr ⟨by omega, by omega⟩
  | exact ⟨by decide, by decide, by decide⟩
  | exact log2_lt (by omega) (by omega)
  | exact ⟨by omega, by omega⟩)
local macro_rules | `(tactic| walk_at "ty") => `(tactic| first
  | exact ty_int | exact ty_bl | exact ty_str | exact ty_non
  | exact ty_L (by assumption) | exact ty_T (by assumption)
  | exact ty_L (SqL.of (by assumption)) | exact ty_T (SqT.of (by assumption)))
local macro_rules | `(tactic| walk_at "kit") => `(tactic| first
  | exact k_ii | exact k_ib | exact k_is | exact k_il | exact k_it
  | exact k_bb | exact k_bi | exact k_bs | exact k_bl | exact k_bt
  | exact k_ss | exact k_sb | exact k_si | exact k_sl | exact k_st
  | exact k_ll | exact k_lb | exact k_li | exact k_ls | exact k_lt
  | exact k_tt | exact k_tb | exact k_ti | exact k_ts | exact k_tl
  | exact k_nn | exact k_ni | exact k_ns | exact k_nl | exact k_nt)
local macro_rules | `(tactic| walk_at "s1") => `(tactic| first
  | with_reducible refine w_seq ?_
  | with_reducible refine w_set ?_
  | with_reducible refine w_op ?_
  | ((with_reducible refine' w_var ?h1 ?_); (case h1 => rfl))
  | with_reducible refine w_c ?_
  | with_reducible refine w_cb ?_
  | with_reducible refine w_cons ?_
  | with_reducible refine w_nil ?_
  | with_reducible refine w_I0 ?_
  | ((with_reducible refine' w_I ?c1 ?_); case c1 => walk_at "cond")
  | with_reducible refine w_ret ?_
  | with_reducible refine w_next ?_
  | with_reducible refine w_ifS ?_
  | with_reducible refine w_test ?_
  | with_reducible refine w_tB ?_
  | with_reducible refine w_k ?_
  | with_reducible refine w_eqI ?_
  | with_reducible refine w_neI ?_
  | with_reducible refine w_eqS ?_
  | with_reducible refine w_neS ?_
  | with_reducible refine w_and ?_
  | with_reducible refine w_or ?_
  | with_reducible refine w_not ?_
  | with_reducible refine w_andV ?_
  | with_reducible refine w_orV ?_
  | with_reducible refine w_notV ?_
  | with_reducible refine w_ifE ?_
  | with_reducible refine w_true ?_
  | with_reducible refine w_false ?_
  | with_reducible refine w_ntrue ?_
  | with_reducible refine w_nfalse ?_
  | with_reducible refine w_call ?_
  | with_reducible refine c_int ?_
  | with_reducible refine c_abs ?_
  | with_reducible refine c_max ?_
  | with_reducible refine c_min ?_
  | with_reducible refine w_drop ?_
  | with_reducible refine w_sfld ?_
  | with_reducible refine w_meth ?_
  | with_reducible refine w_make ?_
  | with_reducible refine w_prop ?_
  | with_reducible refine w_callK ?_
  | with_reducible refine w_callN ?_
  | with_reducible refine w_star ?_
  | with_reducible refine w_gcons ?_
  | with_reducible refine w_gname ?_
  | with_reducible refine w_gnil ?_
  | with_reducible refine w_retN ?_
  | with_reducible refine w_tup ?_
  | with_reducible refine w_lst ?_
  | with_reducible refine w_fld ?_
  | with_reducible refine w_bm ?_
  | with_reducible refine w_bm0 ?_
  | with_reducible refine w_forL ?_
  | with_reducible refine w_forT ?_
  | with_reducible refine w_forS ?_
  | with_reducible refine w_forR ?_
  | with_reducible refine w_lcR ?_
  | with_reducible refine w_lcL ?_
  | with_reducible refine w_lcT ?_
  | with_reducible refine w_isN ?_
  | with_reducible refine w_notN ?_
  | with_reducible refine w_asg ?_
  | with_reducible refine w_gsub ?_
  | ((with_reducible refine' w_aug ?h1 ?_); (case h1 => rfl))
  | with_reducible refine w_augS ?_
  | with_reducible refine w_ipI ?_
  | with_reducible refine w_un ?_
  | with_reducible refine w_U ?_
  | ((with_reducible refine' w_iteF ?f1 ?_); case f1 => (first | (intro h; cases h; done) | decide))
  | ((with_reducible refine' w_iteT ?f1 ?_); case f1 => rfl)
  | ((with_reducible refine' w_iteNF ?f1 ?_); case f1 => rfl)
  | ((with_reducible refine' w_iteNT ?f1 ?_); case f1 => (first | (intro h; cases h; done) | decide))
  | ((with_reducible refine' c_isi ?t1 ?k1 ?_); (case t1 => walk_at "ty"); (case k1 => walk_at "kit"))
  | ((with_reducible refine' w_eq ?e1 ?_); case e1 => rfl)
  | ((with_reducible refine' w_ne ?e1 ?_); case e1 => rfl)
  | walk_at "u1")
local macro_rules | `(tactic| walk_at "s") => `(tactic| repeat walk_at "s1")
local macro_rules | `(tactic| walk_at "mem") => `(tactic| first | with_reducible exact List.mem_cons_self .. | ((with_reducible refine' List.mem_cons_of_mem _ ?q); (case q => walk_at "mem")) | assumption | ((with_reducible refine' List.mem_append_right _ ?q); (case q => walk_at "mem")) | (exact List.mem_append_left _ (by assumption)))
local macro_rules | `(tactic| walk_at "pk") => `(tactic| first | with_reducible exact Pk.here | ((with_reducible refine' Pk.there ?q); (case q => walk_at "pk")) | ((with_reducible refine' Pk.app ?q); (case q => walk_at "pk")))
local macro_rules | `(tactic| walk_at "pkb") => `(tactic| first | with_reducible exact PkB.here | ((with_reducible refine' PkB.there ?q); (case q => walk_at "pkb")) | ((with_reducible refine' PkB.app ?q); (case q => walk_at "pkb")))
local macro_rules | `(tactic| walk_at "spl") => `(tactic| first | with_reducible exact Spl.nil | ((with_reducible refine' Spl.cons ?h ?t); (case h => walk_at "pk"); (case t => walk_at "spl")) | ((with_reducible refine' Spl.blk ?h ?t); (case h => walk_at "pkb"); (case t => walk_at "spl")))
local macro_rules | `(tactic| walk_at "sbx") => `(tactic| first | with_reducible exact Sb.refl | with_reducible exact Sb.nil | with_reducible exact Sb.left | ((with_reducible refine' Sb.cons ?h ?t); (case h => walk_at "pk"); (case t => walk_at "sbx")) | ((with_reducible refine' Sb.blk ?h ?t); (case h => walk_at "pkb"); (case t => walk_at "sbx")) | ((with_reducible refine' Sb.drop ?q); (case q => walk_at "sbx")) | ((with_reducible refine' Sb.right ?q); (case q => walk_at "sbx")))
local macro_rules | `(tactic| walk_at "hd") => `(tactic| first | assumption | exact Hd.sb (by assumption) (by walk_at "sbx"))
local macro_rules | `(tactic| walk_at "sq") => `(tactic| first
  | assumption
  | exact Hd.sqL (by assumption) (by walk_at "mem")
  | exact Hd.sqT (by assumption) (by walk_at "mem")
  | exact Hd.sqF (by assumption) (by walk_at "mem")
  | (refine .inl ?_; walk_at "sq")
  | (refine .inr ?_; walk_at "sq"))
local macro_rules | `(tactic| walk_at "at") => `(tactic| first | rfl | assumption | exact atI_nat (by assumption))
local macro_rules | `(tactic| walk_at "dn1") => `(tactic| first
  | exact Dn.int | exact Dn.str | exact Dn.non | exact Dn.bl | assumption
  | ((refine' Dn.tp ?a1 ?m1 ?l1 ?p1); (case a1 => assumption); (case m1 => walk_at "mem"); (case l1 => (simp only [List.length_cons, List.length_nil]; omega)); (case p1 => walk_at "dns"))
  | ((refine' Dn.lt ?a1 ?m1 ?l1 ?p1); (case a1 => assumption); (case m1 => walk_at "mem"); (case l1 => (simp only [List.length_cons, List.length_nil]; omega)); (case p1 => walk_at "dns")))
local macro_rules | `(tactic| walk_at "dns") => `(tactic| first | exact Paired.nil | exact Dn.ints | ((refine' Paired.cons ?a1 ?b1); (case a1 => walk_at "dn1"); (case b1 => walk_at "dns")))
local macro_rules | `(tactic| walk_at "g1") => `(tactic| first
  | ((with_reducible refine' g_ixI ?h1 ?h2 ?h3 ?_); (case h1 => assumption); (case h2 => walk_at "mem"); (case h3 => omega); intro z hz)
  | ((with_reducible refine' g_ixIT ?h1 ?h2 ?h3 ?_); (case h1 => assumption); (case h2 => walk_at "mem"); (case h3 => omega); intro z hz)
  | ((with_reducible refine' g_setI ?h1 ?h2 ?h3 ?_); (case h1 => assumption); (case h2 => walk_at "pk"); (case h3 => omega); intro H2 hh2)
  | ((with_reducible refine' w_ixL ?h1 ?h2 ?_); (case h1 => walk_at "sq"); (case h2 => walk_at "at"))
  | ((with_reducible refine' w_ixT ?h1 ?h2 ?_); (case h1 => walk_at "sq"); (case h2 => walk_at "at"))
  | ((with_reducible refine' w_ixAny ?h1 ?h2 ?_); (case h1 => walk_at "sq"); (case h2 => walk_at "at"))
  | ((with_reducible refine' c_lenA ?h1 ?_); (case h1 => walk_at "sq"))
  | ((with_reducible refine' c_isi ?t1 ?k1 ?_); (case t1 => first | exact ty_T (by walk_at "sq") | exact ty_L (by walk_at "sq")); (case k1 => walk_at "kit"))
  | ((with_reducible refine' g_lst ?h1 ?h2 ?_); (case h1 => assumption); (case h2 => walk_at "sz"); intro p H2 hh2)
  | ((with_reducible refine' g_tup ?h1 ?h2 ?_); (case h1 => assumption); (case h2 => walk_at "sz"); intro p H2 hh2)
  | ((with_reducible refine' g_dict ?h1 ?_); (case h1 => assumption); intro p H2 hh2)
  | ((with_reducible refine' g_listL ?h1 ?h2 ?_); (case h1 => assumption); (case h2 => walk_at "sq"); intro p H2 hh2)
  | ((with_reducible refine' g_listT ?h1 ?h2 ?_); (case h1 => assumption); (case h2 => walk_at "sq"); intro p H2 hh2)
  | ((with_reducible refine' g_tupL ?h1 ?h2 ?_); (case h1 => assumption); (case h2 => walk_at "sq"); intro p H2 hh2)
  | ((with_reducible refine' g_set ?h1 ?h2 ?h3 ?_); (case h1 => assumption); (case h2 => walk_at "pk"); (case h3 => first | rfl | assumption | exact Evl.ixN_nat (by first | omega | (simp only [List.length_cons, List.length_nil]; omega))); intro H2 hh2)
  | ((with_reducible refine' g_kbm ?h1 ?h2 ?_); (case h1 => assumption); (case h2 => walk_at "mem"))
  | ((with_reducible refine' g_kbm0 ?h1 ?h2 ?_); (case h1 => assumption); (case h2 => walk_at "mem"))
  | ((with_reducible refine' g_app ?h1 ?h2 ?h3 ?_); (case h1 => assumption); (case h2 => walk_at "pk"); (case h3 => walk_at "sz"); intro H2 hh2)
  | ((with_reducible refine' g_kapp ?h1 ?h2 ?h3 ?_); (case h1 => assumption); (case h2 => walk_at "pk"); (case h3 => walk_at "sz"); intro H2 hh2)
  | ((with_reducible refine' g_fld ?h1 ?h2 ?h3 ?h4 ?h5 ?_); (case h1 => assumption); (case h2 => walk_at "mem"); (case h3 => assumption); (case h4 => assumption); (case h5 => rfl))
  | ((with_reducible refine' g_sfld ?h1 ?h2 ?h3 ?h4 ?h5 ?_); (case h1 => assumption); (case h2 => walk_at "pk"); (case h3 => assumption); (case h4 => assumption); (case h5 => decide); intro H2 hh2)
  | ((with_reducible refine' g_meth ?h1 ?h2 ?h3 ?_); (case h1 => assumption); (case h2 => walk_at "mem"); (case h3 => rfl))
  | ((with_reducible refine' g_prop ?h1 ?h2 ?_); (case h1 => assumption); (case h2 => walk_at "mem"))
  | ((with_reducible refine' g_make ?h1 ?_); (case h1 => assumption); intro x H2 hh2)
  | ((with_reducible refine' g_cat ?h1 ?h2 ?h3 ?h4 ?_); (case h1 => assumption); (case h2 => walk_at "mem"); (case h3 => walk_at "mem"); (case h4 => walk_at "sz"); intro p H2 hh2)
  | ((with_reducible refine' g_inT ?h1 ?h2 ?h3 ?h4 ?h5 ?_); (case h1 => assumption); (case h2 => walk_at "mem"); (case h3 => rfl); (case h4 => rfl); (case h5 => rfl)))
local macro_rules | `(tactic| walk_at "gs") => `(tactic| repeat first | walk_at "s1" | walk_at "g1")
local macro_rules | `(tactic| walk_at "ite") => `(tactic| first
  | ((with_reducible refine' w_iteT ?h1 ?_); (case h1 => omega))
  | ((with_reducible refine' w_iteF ?h1 ?_); (case h1 => omega))
  | (with_reducible refine w_ite ?_ ?_ <;> intro hq)
  | ((with_reducible refine' w_iteNT ?h1 ?_); (case h1 => omega))
  | ((with_reducible refine' w_iteNF ?h1 ?_); (case h1 => omega))
  | (with_reducible refine w_iteN ?_ ?_ <;> intro hq))
local macro_rules | `(tactic| walk_at "go") => `(tactic| repeat' first | walk_at "s1" | walk_at "g1" | walk_at "ite")
local macro_rules | `(tactic| walk_at "g1") => `(tactic| first | with_reducible refine w_din ?_ | with_reducible refine w_dnotin ?_ | with_reducible refine w_dget ?_ | with_reducible refine w_dput ?_ | with_reducible refine w_ddel ?_ | with_reducible refine w_dpop ?_)
section
variable {P : Program} {w : World} {K : PySem.W.Frag} {mg : Str → Option Value} {base : Heap} {aREG aOPS : Addr}
/-- what the text leaves of its errors: C is BadArgument, W is WardError -/
structure ErrC (K : PySem.W.Frag) (mg : Str → Option Value) (C W fI : Addr) : Prop where
  g_C : mg "BadArgument" = some (.ref C)
  g_W : mg "WardError" = some (.ref W)
  vErr : mg "ValueError" = none
  o : OexC K C
  x : XfC K C
  e : ExcC K C
  no : PySem.W.findIn K (.ref C) "name" = some none
  init : PySem.W.findIn K (.ref C) "__init__" = some (some (.ref fI))
  fn : PySem.W.typeIn K (.ref fI) = some (.type "function")
  wsp : PySem.W.specialIn K (.ref W) "__getattribute__" = some (some (.builtin "type.__getattribute__"))
  wr : ∃ mc, PySem.W.readsIn K W mc = true ∧ PySem.W.findCls K (.ref W) mc "__init__" = some (.val (.builtin "ValueError.__init__"))
  isW : PySem.W.kitOne K (.ref C) (.ref W) = some true
  exW : PySem.W.exmOne K (.ref C) (.ref W) = some true
  isV : PySem.W.kitOne K (.ref C) (.type "ValueError") = some true
  isC : PySem.W.kitOne K (.ref C) (.ref C) = some true
  others : ∀ x ∈ (["BadText", "LabelTwice", "LabelMissing", "TooLong", "Unknown", "Taken", "NotAllowed", "WrongState", "RingOfWaits", "Full", "Stopped", "SourceError"] : List Str), ∃ a, mg x = some (.ref a) ∧ PySem.W.kitOne K (.ref C) (.ref a) = some false
def sp_badI (C : Addr) : Sp := fun vs H Q _ => ∃ (a : Addr) (z : Str), vs = [.ref a, .str z] ∧ z.length ≤ 1000 ∧ H a = some (exo a C none) ∧ ∀ dx, H dx = none → dx ≠ a → Q .non (upd (upd H dx (exd dx [("name", .str z)])) a (exo a C (some dx)))
theorem f_badI {CX : CXT} {C W f : Addr} {fd : FuncData} (R : ErrC K mg C W f) (d : DefM K "__init__" "BadArgument.__init__" s_BadArgument____init__ [] f fd) : FnOk P w K mg base CX 1 f fd ["self", "name"] (sp_badI C) := by
  refine FunD.ok d sc_BadArgument____init__ (fun vs H Q E h => ?_) (fun cdv A outer s H vs Q E hr h => ?_)
  · obtain ⟨a, z, rfl, _⟩ := h
    rfl
  · obtain ⟨a, z, rfl, hz, ha, q⟩ := h
    obtain ⟨mc, mr, mf⟩ := R.wr
    refine ⟨_, (pss_cons (ps_expr (pe_weinit rfl R.g_W R.wsp mr mf (pa_cons (pv 0) (pa_cons (pe_joined (.cons (pe_fmt (pv 1)) (.cons pe_str .nil))) pa_nil))))
  (pss_one (ps_ost (pv 0) (pv 1)))), ?_⟩
    walk_at "s"
    have e1 : z.length ≤ sizeLine := by rw [sizeLine_eq]; omega
    have e2 : (Str.empty ++ z).length ≤ sizeLine := by rw [Str.length_append]; rw [sizeLine_eq]; show 0 + z.length ≤ _; omega
    refine w_cons (w_var rfl (w_cons ⟨_, rfl, .inl ⟨z, rfl, e1, z, rfl, e2, _, rfl, ?_, ?_⟩⟩))
    · rw [Str.length_append, Str.length_append, sizeLine_eq]
      have e3 : (" is none of the told values" : Str).length ≤ 100 := by decide +kernel
      have e4 : Str.empty.length = 0 := rfl
      omega
    · exact ⟨a, C, _, rfl, by simp only [List.length_cons, List.length_nil]; omega, R.o, ha, _, rfl, _, rfl, a, C, rfl, R.o, R.no, .inl ⟨ha, fun dx n ne => q dx n ne⟩⟩
/-- BadArgument(z): a new dict, no more -/
theorem w_mkBad {C : Addr} {z : Str} {σ : L2.St} {H1 : Hp} {Q : XK} (hz : z.length ≤ 1000) (q : ∀ d H', New H1 H' d (.xd [("name", .str z)]) → Q (.ref C) (some d) H') : tMkO C (sp_badI C) [] (tCons (tC (.str z)) tNil) σ H1 Q := by
  refine w_cons (w_c (w_nil ⟨by simp only [List.length_cons, List.length_nil]; omega, fun a ha => ⟨a, z, rfl, hz, upd_same, fun dx n ne => ⟨rfl, dx, [("name", .str z)], upd_same, ?_, ?_, ?_⟩⟩⟩))
  · rw [upd_ne ne, upd_same]
  · rw [upd_ne ne] at n
    exact n
  · rw [made_heap ha ne]
    rw [upd_ne ne] at n
    exact q dx _ (New.of n)
theorem c_isP {D a dd : Addr} {fs : List (Str × V)} {c : V} {cv : Value} {b : Bool} {H : Hp} {Q : VK} (hd : H dd = some (.xd fs)) (hcv : ∀ u, RelV c u → u = cv) (e : PySem.W.kitOne K (.ref D) cv = some b) (q : Q (.bl b) H) : CB (rIsP K D a dd) [.ref a, c] H Q :=
  ⟨c, cv, b, fs, rfl, hcv, e, hd, q⟩
/-- _law_error of a BadArgument -/
def sp_err (C : Addr) : SpP := fun p vs H Q _ => ∃ (dd : Addr) (z : Str), vs = [.ref p.1] ∧ L2.Zc (.ref C) (some dd) p.2 ∧ (∃ us, p.2.data = .fields us) ∧ H dd = some (.xd [("name", .str z)]) ∧ ∀ t H', Upt [] H H' → H t = none → H' t = some (.tup [.str "BadArgument", .str z]) → Q (.ref t) H'
theorem e_err {C W fI f : Addr} {fd : FuncData} (T : Txt K mg aREG aOPS) (R : ErrC K mg C W fI) (d : FunT K "_law_error" s__law_error f fd) : FnE P w K mg base C8.CX0 1 f fd ["e"] (sp_err C) := by
  obtain ⟨oc, od, dV, kV, doc, pm, an, cdv, ct, osl, rfl, lk, hcd, _, _⟩ := d.ex
  obtain ⟨a1, g_BadText, n1⟩ := R.others "BadText" (by simp)
  obtain ⟨a2, g_LabelTwice, n2⟩ := R.others "LabelTwice" (by simp)
  obtain ⟨a3, g_LabelMissing, n3⟩ := R.others "LabelMissing" (by simp)
  obtain ⟨a4, g_TooLong, n4⟩ := R.others "TooLong" (by simp)
  obtain ⟨a5, g_Unknown, n5⟩ := R.others "Unknown" (by simp)
  obtain ⟨a6, g_Taken, n6⟩ := R.others "Taken" (by simp)
  obtain ⟨a7, g_NotAllowed, n7⟩ := R.others "NotAllowed" (by simp)
  obtain ⟨a8, g_WrongState, n8⟩ := R.others "WrongState" (by simp)
  obtain ⟨a9, g_RingOfWaits, n9⟩ := R.others "RingOfWaits" (by simp)
  obtain ⟨a10, g_Full, n10⟩ := R.others "Full" (by simp)
  obtain ⟨a11, g_Stopped, n11⟩ := R.others "Stopped" (by simp)
  obtain ⟨a12, g_SourceError, n12⟩ := R.others "SourceError" (by simp)
  replace g_BadText : ∃ u, mg "BadText" = some u ∧ RelV (.ref a1) u := ⟨_, g_BadText, rfl⟩
  replace g_LabelTwice : ∃ u, mg "LabelTwice" = some u ∧ RelV (.ref a2) u := ⟨_, g_LabelTwice, rfl⟩
  replace g_LabelMissing : ∃ u, mg "LabelMissing" = some u ∧ RelV (.ref a3) u := ⟨_, g_LabelMissing, rfl⟩
  replace g_TooLong : ∃ u, mg "TooLong" = some u ∧ RelV (.ref a4) u := ⟨_, g_TooLong, rfl⟩
  replace g_Unknown : ∃ u, mg "Unknown" = some u ∧ RelV (.ref a5) u := ⟨_, g_Unknown, rfl⟩
  replace g_Taken : ∃ u, mg "Taken" = some u ∧ RelV (.ref a6) u := ⟨_, g_Taken, rfl⟩
  replace g_NotAllowed : ∃ u, mg "NotAllowed" = some u ∧ RelV (.ref a7) u := ⟨_, g_NotAllowed, rfl⟩
  replace g_WrongState : ∃ u, mg "WrongState" = some u ∧ RelV (.ref a8) u := ⟨_, g_WrongState, rfl⟩
  replace g_RingOfWaits : ∃ u, mg "RingOfWaits" = some u ∧ RelV (.ref a9) u := ⟨_, g_RingOfWaits, rfl⟩
  replace g_Full : ∃ u, mg "Full" = some u ∧ RelV (.ref a10) u := ⟨_, g_Full, rfl⟩
  replace g_Stopped : ∃ u, mg "Stopped" = some u ∧ RelV (.ref a11) u := ⟨_, g_Stopped, rfl⟩
  replace g_SourceError : ∃ u, mg "SourceError" = some u ∧ RelV (.ref a12) u := ⟨_, g_SourceError, rfl⟩
  have g_BadArgument : ∃ u, mg "BadArgument" = some u ∧ RelV (.ref C) u := ⟨_, R.g_C, rfl⟩
  have g_WardError : ∃ u, mg "WardError" = some u ∧ RelV (.ref W) u := ⟨_, R.g_W, rfl⟩
  refine fn_ofE lk hcd sc__law_error (fun p vs H Q E h => ?_) (fun A outer s H vs Q E p hot hr h => ?_)
  · obtain ⟨dd, z, rfl, _⟩ := h
    rfl
  · obtain ⟨a, oe⟩ := p
    obtain ⟨dd, z, rfl, hz, hf, hd, q⟩ := h
    have hp : (a, oe) ∈ (L2H.cxH C8.CX0 P w K mg base nm__law_error "_law_error" (defScope s__law_error) f cdv A outer s H E (a, oe)).pn := List.mem_singleton.mpr rfl
    refine ⟨_, (pss_cons (ps_set (i := 1) sc__law_error.nd rfl (Or.inl rfl) (pe_lst pa_nil))
  (pss_cons (ps_if (pt_val (pe_callB (call_isP R.e hp hz hf) (by rfl) T.b_isinstance (by decide +kernel) (pa_cons (pv 0) (pa_cons (C8.pe_gc rfl g_BadArgument) pa_nil))))
    (pss_one (ps_expr (pe_bm PySem.F.plainAttrs_list PySem.F.slot_list_append PySem.F.type_list_append mt_append (pv 1) (pa_cons (pe_tup (pa_cons pe_str (pa_cons (pe_xfP R.x R.no hp hz hf (pv 0)) pa_nil))) pa_nil))))
    pss_nil)
  (pss_cons (ps_if (pt_val (pe_callB (call_isP R.e hp hz hf) (by rfl) T.b_isinstance (by decide +kernel) (pa_cons (pv 0) (pa_cons (C8.pe_gc rfl g_BadText) pa_nil))))
    (pss_one ps_never)
    pss_nil)
  (pss_cons (ps_if (pt_val (pe_callB (call_isP R.e hp hz hf) (by rfl) T.b_isinstance (by decide +kernel) (pa_cons (pv 0) (pa_cons (C8.pe_gc rfl g_LabelTwice) pa_nil))))
    (pss_one ps_never)
    pss_nil)
  (pss_cons (ps_if (pt_val (pe_callB (call_isP R.e hp hz hf) (by rfl) T.b_isinstance (by decide +kernel) (pa_cons (pv 0) (pa_cons (C8.pe_gc rfl g_LabelMissing) pa_nil))))
    (pss_one ps_never)
    pss_nil)
  (pss_cons (ps_if (pt_val (pe_callB (call_isP R.e hp hz hf) (by rfl) T.b_isinstance (by decide +kernel) (pa_cons (pv 0) (pa_cons (C8.pe_gc rfl g_TooLong) pa_nil))))
    (pss_one ps_never)
    pss_nil)
  (pss_cons (ps_if (pt_val (pe_callB (call_isP R.e hp hz hf) (by rfl) T.b_isinstance (by decide +kernel) (pa_cons (pv 0) (pa_cons (C8.pe_gc rfl g_Unknown) pa_nil))))
    (pss_one ps_never)
    pss_nil)
  (pss_cons (ps_if (pt_val (pe_callB (call_isP R.e hp hz hf) (by rfl) T.b_isinstance (by decide +kernel) (pa_cons (pv 0) (pa_cons (C8.pe_gc rfl g_Taken) pa_nil))))
    (pss_one ps_never)
    pss_nil)
  (pss_cons (ps_if (pt_val (pe_callB (call_isP R.e hp hz hf) (by rfl) T.b_isinstance (by decide +kernel) (pa_cons (pv 0) (pa_cons (C8.pe_gc rfl g_NotAllowed) pa_nil))))
    (pss_one ps_never)
    pss_nil)
  (pss_cons (ps_if (pt_val (pe_callB (call_isP R.e hp hz hf) (by rfl) T.b_isinstance (by decide +kernel) (pa_cons (pv 0) (pa_cons (C8.pe_gc rfl g_WrongState) pa_nil))))
    (pss_one ps_never)
    pss_nil)
  (pss_cons (ps_if (pt_val (pe_callB (call_isP R.e hp hz hf) (by rfl) T.b_isinstance (by decide +kernel) (pa_cons (pv 0) (pa_cons (C8.pe_gc rfl g_RingOfWaits) pa_nil))))
    (pss_one ps_never)
    pss_nil)
  (pss_cons (ps_if (pt_val (pe_callB (call_isP R.e hp hz hf) (by rfl) T.b_isinstance (by decide +kernel) (pa_cons (pv 0) (pa_cons (C8.pe_gc rfl g_Full) pa_nil))))
    (pss_one ps_never)
    pss_nil)
  (pss_cons (ps_if (pt_val (pe_callB (call_isP R.e hp hz hf) (by rfl) T.b_isinstance (by decide +kernel) (pa_cons (pv 0) (pa_cons (C8.pe_gc rfl g_Stopped) pa_nil))))
    (pss_one ps_never)
    pss_nil)
  (pss_cons (ps_if (PW.pt (pw_or (pt_cmpR op_ne (pe_callB Wk.b_len (by rfl) T.b_len (by decide +kernel) (pa_cons (pv 1) pa_nil)) pe_int (nomark _)) (pw_or (pt_not (pt_val (pe_callB (call_isP R.e hp hz hf) (by rfl) T.b_isinstance (by decide +kernel) (pa_cons (pv 0) (pa_cons (C8.pe_gc rfl g_WardError) pa_nil))))) (pw_or1 (pt_not (pt_val (pe_callB (call_isP R.e hp hz hf) (by rfl) T.b_isinstance (by decide +kernel) (pa_cons (pv 0) (pa_cons (pe_bltn (v := .ty "ValueError") (by rfl) R.vErr (by decide +kernel) rfl) pa_nil)))))))))
    (pss_one ps_never)
    pss_nil)
  (pss_cons (ps_if (pt_cmpR op_ne (pe_callB (call_isP R.e hp hz hf) (by rfl) T.b_isinstance (by decide +kernel) (pa_cons (pv 0) (pa_cons (C8.pe_gc rfl g_SourceError) pa_nil))) (pe_cmpR op_in_seq (pe_ix ix_seq (pe_ix ix_list (pv 1) pe_int (fun _ _ => rfl)) pe_int (fun _ _ => rfl)) (pe_tup (pa_cons pe_str (pa_cons pe_str (pa_cons pe_str (pa_cons pe_str pa_nil))))) (by rfl)) (nomark _))
    (pss_one ps_never)
    pss_nil)
  (pss_one (ps_ret (pe_ix ix_list (pv 1) pe_int (fun _ _ => rfl))))))))))))))))))), ?_⟩
    walk_at "s"
    refine w_new (by decide) fun p2 H2 m2 => ?_
    have h2 := m2.keep.at0 hd
    walk_at "s"
    refine c_isP h2 (fun u r => r) R.isC ?_
    walk_at "s"
    refine w_kbm (ty_list (SqL.of m2.at_)) ?_
    walk_at "s"
    refine w_var rfl ⟨rfl, rfl, dd, _, .str z, rfl, h2, rfl, ?_⟩
    walk_at "s"
    refine w_new (by walk_at "sz") fun p3 H3 m3 => ?_
    walk_at "s"
    refine w_append (m3.keep.at0 m2.at_) (by decide) fun H4 g4 => ?_
    have t4 := g4.keep.at1 (m3.ne' m2.at_) m3.at_
    have d4 := g4.keep.at1 (m2.ne hd) (m3.keep.at0 h2)
    have U4 : Upt [] H H4 := Upt.chgNew (m2.keep.trans m3.keep) m2.no g4
    walk_at "s"
    refine c_isP d4 (fun u r => r) n1 ?_
    walk_at "s"
    refine c_isP d4 (fun u r => r) n2 ?_
    walk_at "s"
    refine c_isP d4 (fun u r => r) n3 ?_
    walk_at "s"
    refine c_isP d4 (fun u r => r) n4 ?_
    walk_at "s"
    refine c_isP d4 (fun u r => r) n5 ?_
    walk_at "s"
    refine c_isP d4 (fun u r => r) n6 ?_
    walk_at "s"
    refine c_isP d4 (fun u r => r) n7 ?_
    walk_at "s"
    refine c_isP d4 (fun u r => r) n8 ?_
    walk_at "s"
    refine c_isP d4 (fun u r => r) n9 ?_
    walk_at "s"
    refine c_isP d4 (fun u r => r) n10 ?_
    walk_at "s"
    refine c_isP d4 (fun u r => r) n11 ?_
    walk_at "s"
    refine c_lenL (SqL.of g4.at_) ?_
    walk_at "s"
    refine c_isP d4 (fun u r => r) R.isW ?_
    walk_at "s"
    refine c_isP d4 (fun u r => by cases r; rfl) R.isV ?_
    walk_at "s"
    refine c_isP d4 (fun u r => r) n12 ?_
    walk_at "s"
    refine w_ixL (SqL.of g4.at_) rfl ?_
    walk_at "s"
    refine w_ixAny (.inr (SqT.of t4)) rfl ?_
    walk_at "s"
    refine w_new (by decide) fun p5 H5 m5 => ?_
    refine w_inT m5.at_ rfl rfl (b := false) (by decide +kernel) ?_
    walk_at "s"
    refine w_ixL (SqL.of (m5.keep.at0 g4.at_)) rfl ?_
    exact q p3 H5 (U4.trans m5.keep) (by
      cases e : H p3 with
      | none => rfl
      | some o => exact absurd (m2.keep.at0 e) (by rw [m3.no]; simp)) (m5.keep.at0 t4)
/-- the same, in an except suite -/
def sp_errA (C a : Addr) (cls : Value) (d : Option Addr) : Sp := fun vs H Q _ => ∃ (dd : Addr) (z : Str), vs = [.ref a] ∧ cls = .ref C ∧ d = some dd ∧ H dd = some (.xd [("name", .str z)]) ∧ ∀ t H', Upt [] H H' → H t = none → H' t = some (.tup [.str "BadArgument", .str z]) → Q (.ref t) H'
theorem imp_err {C a : Addr} {oe : Obj} {cls : Value} {d : Option Addr} (hz : L2N.Zn cls d oe) (hf : ∃ vs, oe.data = .fields vs) : ∀ vs H Q E, sp_errA C a cls d vs H Q E → sp_err C (a, oe) vs H Q E := fun _ _ _ _ ⟨dd, z, h1, h2, h3, h4, q⟩ =>
  ⟨dd, z, h1, by subst h2 h3; exact ⟨hz.1, hz.2.1⟩, hf, h4, q⟩
theorem hot_err {A : Around} {a : Addr} {oe : Obj} {cls : Value} {d : Option Addr} (hz : L2N.Zn cls d oe) (hf : ∃ vs, oe.data = .fields vs) : L2H.Hot1 (A.mark (some (.ref a))) (a, oe) := ⟨rfl, let ⟨vs, e⟩ := hf; ⟨vs, e, hz.2.2 vs e⟩⟩
theorem rH {A : Around} {x : Option Value} {j : Nat} (hr : Room (j + 1) A) : L2H.RoomH 1 (A.mark x) := L2H.RoomH.mono (k := j + 1) ⟨hr.dp, hr.un⟩ (by omega)
/-! ### what ask_range refuses -/
theorem dn_kh {H : Hp} {v : V} {d : PyData} : ∀ {n : Nat}, Dn K [] H n v d → ∃ t, KH K H v t
  | 0, h => by cases h <;> exact ⟨_, by constructor⟩
  | n + 1, h => by
    rcases h with h | ⟨a, xs, ds, e1, e2, ha, hq, hl, p⟩ | ⟨a, xs, ds, e1, e2, ha, hq, hl, p⟩
    · cases h <;> exact ⟨_, by constructor⟩
    · subst e1; exact ⟨_, .lst hq⟩
    · subst e1; exact ⟨_, .tup hq⟩
/-- BadArgument(x): a new dict, no more -/
theorem w_mkBadV {C : Addr} {z : Str} {i : Nat} {σ : L2.St} {H1 : Hp} {Q : XK} (hv : σ[i]? = some (some (.str z))) (hz : z.length ≤ 1000) (q : ∀ d H', New H1 H' d (.xd [("name", .str z)]) → Q (.ref C) (some d) H') : tMkO C (sp_badI C) [] (tCons (tVar i) tNil) σ H1 Q := by
  refine w_cons (w_var hv (w_nil ⟨by simp only [List.length_cons, List.length_nil]; omega, fun a ha => ⟨a, z, rfl, hz, upd_same, fun dx n ne => ⟨rfl, dx, [("name", .str z)], upd_same, ?_, ?_, ?_⟩⟩⟩))
  · rw [upd_ne ne, upd_same]
  · rw [upd_ne ne] at n
    exact n
  · rw [made_heap ha ne]
    rw [upd_ne ne] at n
    exact q dx _ (New.of n)
def sp_askX (K : PySem.W.Frag) (C : Addr) : Sp := fun vs H Q E => ∃ (z : Str) (v : V) (t : String) (lo hi : Int), vs = [.str z, v, .int lo, .int hi] ∧ z.length ≤ 1000 ∧ KH K H v t ∧ isR v lo hi = false ∧ ∀ H' d, New H H' d (.xd [("name", .str z)]) → E (.ref C) (some d) H'
theorem x_ask {C W fI : Addr} {fdI : FuncData} (T : Txt K mg aREG aOPS) (R : ErrC K mg C W fI) (dI : DefM K "__init__" "BadArgument.__init__" s_BadArgument____init__ [] fI fdI) (d : DefAt K mg "ask_range" s_ask_range)
    (c_is_in_range : C8.Cal P w K mg base 2 "is_in_range" (sp_range K) []) : CalN P w K mg base 3 "ask_range" (sp_askX K C) := by
  obtain ⟨f, fd, F, hm⟩ := d
  have bI : Binds K fdI ["self", "name"] [] := FunD.bindsN dI fun _ _ _ _ _ _ us hl => match us, hl with | [_, _], _ => rfl
  refine ⟨f, fd, ["name", "number", "least", "most"], FunD.ok F sc_ask_range (fun vs H Q E h => ?_) (fun cdv A outer s H vs Q E hr h => ?_), hm, F.kp, FunD.bindsN F fun _ _ _ _ _ _ us hl => match us, hl with | [_, _, _, _], _ => rfl⟩
  · obtain ⟨z, v, t, lo, hi, rfl, _⟩ := h
    rfl
  · obtain ⟨z, v, t, lo, hi, rfl, hz, kh, hb, q⟩ := h
    have F_init := f_badI (P := P) (w := w) (base := base) (CX := L2N.CX P w) R dI
    have tk := L2N.takes_of (X := cxOf (L2N.CX P w) P w K mg base nm_ask_range "ask_range" (defScope s_ask_range) f cdv A outer s H E) (E := E) rfl rfl rfl rfl
    refine ⟨_, (pss_one (ps_if (pt_not (pt_val (C8.pe_c c_is_in_range hr (by first | decide | omega) rfl (pa_cons (pv 1) (pa_cons (pv 2) (pa_cons (pv 3) pa_nil))))))
    (pss_one (L2N.ps_raise rfl tk (pmk_oexN R.o R.init R.fn F_init (hr.mono (by omega)) bI .nil passN rfl R.g_C (pa_cons (pv 0) pa_nil))))
    pss_nil)), ?_⟩
    walk_at "s"
    refine u_range kh ?_
    rw [hb]
    walk_at "s"
    exact w_mkBadV rfl hz fun d H' n => q H' d n
theorem new_tup' {H H' : Hp} {L : List Cell} {t : Addr} {xs : List V} (h : Hd H L) (u : Upt [] H H') (n : H t = none) (e : H' t = some (.tup xs)) : Hd H' (tupC t xs :: L) := by
  have h' := h.upt0 u
  refine ⟨List.nodup_cons.mpr ⟨fun z => ?_, h'.nd⟩, fun c hc => ?_⟩
  · obtain ⟨c, hc, ec⟩ := List.mem_map.mp z
    obtain ⟨o, ho, _⟩ := h.at_ c hc
    rw [ec, show (tupC t xs).1 = t from rfl, n] at ho
    cases ho
  · rcases List.mem_cons.mp hc with rfl | hc
    · exact ⟨_, e, rfl⟩
    · exact h'.at_ c hc
end
end K24
set_option Elab.async false
set_option linter.all false
set_option maxRecDepth 100000
set_option maxHeartbeats 4000000
namespace K24
open PySem PySem.Spec PyProof.Rows L2 Wk
local macro_rules | `(tactic| walk_at "u1") => `(tactic| fail "no more")
local macro_rules | `(tactic| walk_at "pos") => `(tactic| first | assumption | omega | decide | (simp only [Int.ofNat_eq_natCast] at *; omega))
local macro_rules | `(tactic| walk_at "sz") => `(tactic| first
  | (simp only [List.length_cons, List.length_nil]; decide)
  | exact Evl.sz_of (by omega)
  | exact Evl.sz_lt (by omega)
  | exact Evl.sz_of (by simp only [List.length_map, List.length_append, List.length_cons, List.length_nil, List.length_replicate]; omega)
  | exact Evl.sz_lt (by simp only [List.length_map, List.length_append, List.length_cons, List.length_nil, List.length_replicate]; omega))
local macro_rules | `(tactic| walk_at "cond") => `(tactic| first
  | exact Or.inr ⟨by decide, by decide⟩
  | (show (0 : Int) < _; first | decide | assumption | omega)
  | exact Or.inl ⟨by omega, by omega⟩
  | exact Or.inr ⟨by omega, by omega⟩
  | exact ⟨by decide, by decide, by decide⟩
  | exact log2_lt (by omega) (by omega)
  | exact ⟨by omega, by omega⟩)
local macro_rules | `(tactic| walk_at "ty") => `(tactic| first
  | exact ty_int | exact ty_bl | exact ty_str | exact ty_non
  | exact ty_L (by assumption) | exact ty_T (by assumption)
  | exact ty_L (SqL.of (by assumption)) | exact ty_T (SqT.of (by assumption)))
local macro_rules | `(tactic| walk_at "kit") => `(tactic| first
  | exact k_ii | exact k_ib | exact k_is | exact k_il | exact k_it
  | exact k_bb | exact k_bi | exact k_bs | exact k_bl | exact k_bt
  | exact k_ss | exact k_sb | exact k_si | exact k_sl | exact k_st
  | exact k_ll | exact k_lb | exact k_li | exact k_ls | exact k_lt
  | exact k_tt | exact k_tb | exact k_ti | exact k_ts | exact k_tl
  | exact k_nn | exact k_ni | exact k_ns | exact k_nl | exact k_nt)
local macro_rules | `(tactic| walk_at "s1") => `(tactic| first
  | with_reducible refine w_seq ?_
  | with_reducible refine w_set ?_
  | with_reducible refine w_op ?_
  | ((with_reducible refine' w_var ?h1 ?_); (case h1 => rfl))
  | with_reducible refine w_c ?_
  | with_reducible refine w_cb ?_
  | with_reducible refine w_cons ?_
  | with_reducible refine w_nil ?_
  | with_reducible refine w_I0 ?_
  | ((with_reducible refine' w_I ?c1 ?_); case c1 => walk_at "cond")
  | with_reducible refine w_ret ?_
  | with_reducible refine w_next ?_
  | with_reducible refine w_ifS ?_
  | with_reducible refine w_test ?_
  | with_reducible refine w_tB ?_
  | with_reducible refine w_k ?_
  | with_reducible refine w_eqI ?_
  | with_reducible refine w_neI ?_
  | with_reducible refine w_eqS ?_
  | with_reducible refine w_neS ?_
  | with_reducible refine w_and ?_
  | with_reducible refine w_or ?_
  | with_reducible refine w_not ?_
  | with_reducible refine w_andV ?_
  | with_reducible refine w_orV ?_
  | with_reducible refine w_notV ?_
  | with_reducible refine w_ifE ?_
  | with_reducible refine w_true ?_
  | with_reducible refine w_false ?_
  | with_reducible refine w_ntrue ?_
  | with_reducible refine w_nfalse ?_
  | with_reducible refine w_call ?_
  | with_reducible refine c_int ?_
  | with_reducible refine c_abs ?_
  | with_reducible refine c_max ?_
  | with_reducible refine c_min ?_
  | with_reducible refine w_drop ?_
  | with_reducible refine w_sfld ?_
  | with_reducible refine w_meth ?_
  | with_reducible refine w_make ?_
  | with_reducible refine w_prop ?_
  | with_reducible refine w_callK ?_
  | with_reducible refine w_callN ?_
  | with_reducible refine w_star ?_
  | with_reducible refine w_gcons ?_
  | with_reducible refine w_gname ?_
  | with_reducible refine w_gnil ?_
  | with_reducible refine w_retN ?_
  | with_reducible refine w_tup ?_
  | with_reducible refine w_lst ?_
  | with_reducible refine w_fld ?_
  | with_reducible refine w_bm ?_
  | with_reducible refine w_bm0 ?_
  | with_reducible refine w_forL ?_
  | with_reducible refine w_forT ?_
  | with_reducible refine w_forS ?_
  | with_reducible refine w_forR ?_
  | with_reducible refine w_lcR ?_
  | with_reducible refine w_lcL ?_
  | with_reducible refine w_lcT ?_
  | with_reducible refine w_isN ?_
  | with_reducible refine w_notN ?_
  | with_reducible refine w_asg ?_
  | with_reducible refine w_gsub ?_
  | ((with_reducible refine' w_aug ?h1 ?_); (case h1 => rfl))
  | with_reducible refine w_augS ?_
  | with_reducible refine w_ipI ?_
  | with_reducible refine w_un ?_
  | with_reducible refine w_U ?_
  | ((with_reducible refine' w_iteF ?f1 ?_); case f1 => (first | (intro h; cases h; done) | decide))
  | ((with_reducible refine' w_iteT ?f1 ?_); case f1 => rfl)
  | ((with_reducible refine' w_iteNF ?f1 ?_); case f1 => rfl)
  | ((with_reducible refine' w_iteNT ?f1 ?_); case f1 => (first | (intro h; cases h; done) | decide))
  | ((with_reducible refine' c_isi ?t1 ?k1 ?_); (case t1 => walk_at "ty"); (case k1 => walk_at "kit"))
  | ((with_reducible refine' w_eq ?e1 ?_); case e1 => rfl)
  | ((with_reducible refine' w_ne ?e1 ?_); case e1 => rfl)
  | walk_at "u1")
local macro_rules | `(tactic| walk_at "s") => `(tactic| repeat walk_at "s1")
local macro_rules | `(tactic| walk_at "mem") => `(tactic| first | with_reducible exact List.mem_cons_self .. | ((with_reducible refine' List.mem_cons_of_mem _ ?q); (case q => walk_at "mem")) | assumption | ((with_reducible refine' List.mem_append_right _ ?q); (case q => walk_at "mem")) | (exact List.mem_append_left _ (by assumption)))
local macro_rules | `(tactic| walk_at "pk") => `(tactic| first | with_reducible exact Pk.here | ((with_reducible refine' Pk.there ?q); (case q => walk_at "pk")) | ((with_reducible refine' Pk.app ?q); (case q => walk_at "pk")))
local macro_rules | `(tactic| walk_at "pkb") => `(tactic| first | with_reducible exact PkB.here | ((with_reducible refine' PkB.there ?q); (case q => walk_at "pkb")) | ((with_reducible refine' PkB.app ?q); (case q => walk_at "pkb")))
local macro_rules | `(tactic| walk_at "spl") => `(tactic| first | with_reducible exact Spl.nil | ((with_reducible refine' Spl.cons ?h ?t); (case h => walk_at "pk"); (case t => walk_at "spl")) | ((with_reducible refine' Spl.blk ?h ?t); (case h => walk_at "pkb"); (case t => walk_at "spl")))
local macro_rules | `(tactic| walk_at "sbx") => `(tactic| first | with_reducible exact Sb.refl | with_reducible exact Sb.nil | with_reducible exact Sb.left | ((with_reducible refine' Sb.cons ?h ?t); (case h => walk_at "pk"); (case t => walk_at "sbx")) | ((with_reducible refine' Sb.blk ?h ?t); (case h => walk_at "pkb"); (case t => walk_at "sbx")) | ((with_reducible refine' Sb.drop ?q); (case q => walk_at "sbx")) | ((with_reducible refine' Sb.right ?q); (case q => walk_at "sbx")))
local macro_rules | `(tactic| walk_at "hd") => `(tactic| first | assumption | exact Hd.sb (by assumption) (by walk_at "sbx"))
local macro_rules | `(tactic| walk_at "sq") => `(tactic| first
  | assumption
  | exact Hd.sqL (by assumption) (by walk_at "mem")
  | exact Hd.sqT (by assumption) (by walk_at "mem")
  | exact Hd.sqF (by assumption) (by walk_at "mem")
  | (refine .inl ?_; walk_at "sq")
  | (refine .inr ?_; walk_at "sq"))
local macro_rules | `(tactic| walk_at "at") => `(tactic| first | rfl | assumption | exact atI_nat (by assumption))
local macro_rules | `(tactic| walk_at "dn1") => `(tactic| first
  | exact Dn.int | exact Dn.str | exact Dn.non | exact Dn.bl | assumption
  | ((refine' Dn.tp ?a1 ?m1 ?l1 ?p1); (case a1 => assumption); (case m1 => walk_at "mem"); (case l1 => (simp only [List.length_cons, List.length_nil]; omega)); (case p1 => walk_at "dns"))
  | ((refine' Dn.lt ?a1 ?m1 ?l1 ?p1); (case a1 => assumption); (case m1 => walk_at "mem"); (case l1 => (simp only [List.length_cons, List.length_nil]; omega)); (case p1 => walk_at "dns")))
local macro_rules | `(tactic| walk_at "dns") => `(tactic| first | exact Paired.nil | exact Dn.ints | ((refine' Paired.cons ?a1 ?b1); (case a1 => walk_at "dn1"); (case b1 => walk_at "dns")))
local macro_rules | `(tactic| walk_at "g1") => `(tactic| first
  | ((with_reducible refine' g_ixI ?h1 ?h2 ?h3 ?_); (case h1 => assumption); (case h2 => walk_at "mem"); (case h3 => omega); intro z hz)
  | ((with_reducible refine' g_ixIT ?h1 ?h2 ?h3 ?_); (case h1 => assumption); (case h2 => walk_at "mem"); (case h3 => omega); intro z hz)
  | ((with_reducible refine' g_setI ?h1 ?h2 ?h3 ?_); (case h1 => assumption); (case h2 => walk_at "pk"); (case h3 => omega); intro H2 hh2)
  | ((with_reducible refine' w_ixL ?h1 ?h2 ?_); (case h1 => walk_at "sq"); (case h2 => walk_at "at"))
  | ((with_reducible refine' w_ixT ?h1 ?h2 ?_); (case h1 => walk_at "sq"); (case h2 => walk_at "at"))
  | ((with_reducible refine' w_ixAny ?h1 ?h2 ?_); (case h1 => walk_at "sq"); (case h2 => walk_at "at"))
  | ((with_reducible refine' c_lenA ?h1 ?_); (case h1 => walk_at "sq"))
  | ((with_reducible refine' c_isi ?t1 ?k1 ?_); (case t1 => first | exact ty_T (by walk_at "sq") | exact ty_L (by walk_at "sq")); (case k1 => walk_at "kit"))
  | ((with_reducible refine' g_lst ?h1 ?h2 ?_); (case h1 => assumption); (case h2 => walk_at "sz"); intro p H2 hh2)
  | ((with_reducible refine' g_tup ?h1 ?h2 ?_); (case h1 => assumption); (case h2 => walk_at "sz"); intro p H2 hh2)
  | ((with_reducible refine' g_dict ?h1 ?_); (case h1 => assumption); intro p H2 hh2)
  | ((with_reducible refine' g_listL ?h1 ?h2 ?_); (case h1 => assumption); (case h2 => walk_at "sq"); intro p H2 hh2)
  | ((with_reducible refine' g_listT ?h1 ?h2 ?_); (case h1 => assumption); (case h2 => walk_at "sq"); intro p H2 hh2)
  | ((with_reducible refine' g_tupL ?h1 ?h2 ?_); (case h1 => assumption); (case h2 => walk_at "sq"); intro p H2 hh2)
  | ((with_reducible refine' g_set ?h1 ?h2 ?h3 ?_); (case h1 => assumption); (case h2 => walk_at "pk"); (case h3 => first | rfl | assumption | exact Evl.ixN_nat (by first | omega | (simp only [List.length_cons, List.length_nil]; omega))); intro H2 hh2)
  | ((with_reducible refine' g_kbm ?h1 ?h2 ?_); (case h1 => assumption); (case h2 => walk_at "mem"))
  | ((with_reducible refine' g_kbm0 ?h1 ?h2 ?_); (case h1 => assumption); (case h2 => walk_at "mem"))
  | ((with_reducible refine' g_app ?h1 ?h2 ?h3 ?_); (case h1 => assumption); (case h2 => walk_at "pk"); (case h3 => walk_at "sz"); intro H2 hh2)
  | ((with_reducible refine' g_kapp ?h1 ?h2 ?h3 ?_); (case h1 => assumption); (case h2 => walk_at "pk"); (case h3 => walk_at "sz"); intro H2 hh2)
  | ((with_reducible refine' g_fld ?h1 ?h2 ?h3 ?h4 ?h5 ?_); (case h1 => assumption); (case h2 => walk_at "mem"); (case h3 => assumption); (case h4 => assumption); (case h5 => rfl))
  | ((with_reducible refine' g_sfld ?h1 ?h2 ?h3 ?h4 ?h5 ?_); (case h1 => assumption); (case h2 => walk_at "pk"); (case h3 => assumption); (case h4 => assumption); (case h5 => decide); intro H2 hh2)
  | ((with_reducible refine' g_meth ?h1 ?h2 ?h3 ?_); (case h1 => assumption); (case h2 => walk_at "mem"); (case h3 => rfl))
  | ((with_reducible refine' g_prop ?h1 ?h2 ?_); (case h1 => assumption); (case h2 => walk_at "mem"))
  | ((with_reducible refine' g_make ?h1 ?_); (case h1 => assumption); intro x H2 hh2)
  | ((with_reducible refine' g_cat ?h1 ?h2 ?h3 ?h4 ?_); (case h1 => assumption); (case h2 => walk_at "mem"); (case h3 => walk_at "mem"); (case h4 => walk_at "sz"); intro p H2 hh2)
  | ((with_reducible refine' g_inT ?h1 ?h2 ?h3 ?h4 ?h5 ?_); (case h1 => assumption); (case h2 => walk_at "mem"); (case h3 => rfl); (case h4 => rfl); (case h5 => rfl)))
local macro_rules | `(tactic| walk_at "gs") => `(tactic| repeat first | walk_at "s1" | walk_at "g1")
local macro_rules | `(tactic| walk_at "ite") => `(tactic| first
  | ((with_reducible refine' w_iteT ?h1 ?_); (case h1 => omega))
  | ((with_reducible refine' w_iteF ?h1 ?_); (case h1 => omega))
  | (with_reducible refine w_ite ?_ ?_ <;> intro hq)
  | ((with_reducible refine' w_iteNT ?h1 ?_); (case h1 => omega))
  | ((with_reducible refine' w_iteNF ?h1 ?_); (case h1 => omega))
  | (with_reducible refine w_iteN ?_ ?_ <;> intro hq))
local macro_rules | `(tactic| walk_at "go") => `(tactic| repeat' first | walk_at "s1" | walk_at "g1" | walk_at "ite")
local macro_rules | `(tactic| walk_at "g1") => `(tactic| first
  | ((with_reducible refine' g_take1 ?h1 ?h2 ?h3 ?h4 ?_); (case h1 => assumption); (case h2 => walk_at "spl"); (case h3 => omega); (case h4 => omega); intro k H2 hk1 hh2)
  | ((with_reducible refine' g_take ?h1 ?h2 ?h4 ?_); (case h1 => assumption); (case h2 => walk_at "spl"); (case h4 => omega); intro k H2 hk1 hh2)
  | ((with_reducible refine' g_betweenN ?h1 ?h2 ?h5 ?h3 ?h4 ?_); (case h1 => assumption); (case h2 => walk_at "spl"); (case h5 => omega); (case h3 => omega); (case h4 => omega); intro k H2 hk1 hk2 hh2)
  | ((with_reducible refine' g_between ?h1 ?h2 ?h3 ?h4 ?_); (case h1 => assumption); (case h2 => walk_at "spl"); (case h3 => omega); (case h4 => omega); intro k H2 hk1 hk2 hh2)
  | ((with_reducible refine' g_size ?h1 ?h2 ?h3 ?h4 ?_); (case h1 => assumption); (case h2 => walk_at "spl"); (case h3 => omega); (case h4 => omega); intro k H2 hk1 hh2)
  | ((with_reducible refine' g_word ?h1 ?h2 ?_); (case h1 => assumption); (case h2 => walk_at "spl"); intro k H2 hk1 hh2))
local macro_rules | `(tactic| walk_at "g1") => `(tactic| first | with_reducible refine w_din ?_ | with_reducible refine w_dnotin ?_ | with_reducible refine w_dget ?_ | with_reducible refine w_dput ?_ | with_reducible refine w_ddel ?_ | with_reducible refine w_dpop ?_)
section
variable {P : Program} {w : World} {K : PySem.W.Frag} {mg : Str → Option Value} {base : Heap} {aREG aOPS : Addr}
/-- v is no integer from lo to hi; what it is made of stands in Z -/
def WrongD (K : PySem.W.Frag) (Z : List Cell) (lo hi : Int) (v : V) : Prop := isR v lo hi = false ∧ ∃ d, Zc K Z 1 v d
def sp_wrongD (K : PySem.W.Frag) : Sp := fun vs H Q _ => ∃ (st c : Addr) (lo hi : Int) (R : List Cell), vs = [.ref st, .int lo, .int hi] ∧ 0 ≤ lo ∧ lo ≤ hi ∧ hi ≤ 65535 ∧ Hd H (stoC st c :: scrC c :: R) ∧
  ∀ (v : V) (Z : List Cell) (H' : Hp), WrongD K Z lo hi v → Hd H' (stoC st c :: scrC c :: (Z ++ R)) → Q v H'
theorem g_wrongD {st c : Addr} {lo hi : Int} {H : Hp} {L R : List Cell} {Q : VK} {E : XK} (hh : Hd H L) (s : Spl L [stoC st c, scrC c] R) (h0 : 0 ≤ lo) (h1 : lo ≤ hi) (h2 : hi ≤ 65535) (q : ∀ (v : V) (Z : List Cell) (H' : Hp), WrongD K Z lo hi v → Hd H' (stoC st c :: scrC c :: (Z ++ R)) → Q v H') : sp_wrongD K [.ref st, .int lo, .int hi] H Q E :=
  ⟨st, c, lo, hi, R, rfl, h0, h1, h2, hh.spl s, q⟩
theorem c_wrongD (T : Txt K mg aREG aOPS) (d : DefAt K mg "_law_wrong_integer" s__law_wrong_integer) (c__law_take : C8.Cal P w K mg base 2 "_law_take" sp_take []) (c__law_pick : C8.Cal P w K mg base 3 "_law_pick" (sp_pick K) []) : C8.Cal P w K mg base 4 "_law_wrong_integer" (sp_wrongD K) [] := by
  refine mk d sc__law_wrong_integer (fun _ _ _ _ _ _ us hl => match us, hl with | [_, _, _], _ => rfl) (fun vs H Q E h => ?_) (fun fa cdv A outer s H vs Q E hr h => ?_)
  · obtain ⟨st, c, lo, hi, R, rfl, _⟩ := h
    rfl
  · obtain ⟨st, c, lo, hi, R, rfl, h0, h1, h2, hh, q⟩ := h
    refine ⟨_, (pss_cons (ps_set (i := 3) sc__law_wrong_integer.nd rfl (Or.inl rfl) (pe_lst (pa_cons (pe_op op_sub (pv 1) pe_int) (pa_cons (pe_op op_add (pv 2) pe_int) (pa_cons (pe_un un_neg pe_int) (pa_cons pe_int pa_nil))))))
  (pss_cons (ps_set (i := 4) sc__law_wrong_integer.nd rfl (Or.inl rfl) (pe_lst (pa_cons pe_bl (pa_cons pe_bl (pa_cons pe_non (pa_cons (pe_callTy call_str_int (by rfl) T.b_str (by decide +kernel) (pa_cons (pv 1) pa_nil)) (pa_cons pe_str (pa_cons pe_str (pa_cons (pe_lst pa_nil) (pa_cons (pe_lst (pa_cons (pv 1) pa_nil)) (pa_cons (pe_tup (pa_cons (pv 2) pa_nil)) (pa_cons (pe_tup pa_nil) pa_nil))))))))))))
  (pss_cons (ps_if (pt_cmpR op_eq (C8.pe_c c__law_take hr (by first | decide | omega) rfl (pa_cons (pv 0) (pa_cons pe_int pa_nil))) pe_int (nomark _))
    (pss_one (ps_ret (C8.pe_c c__law_pick hr (by first | decide | omega) rfl (pa_cons (pv 0) (pa_cons (pv 3) pa_nil)))))
    pss_nil)
  (pss_one (ps_ret (C8.pe_c c__law_pick hr (by first | decide | omega) rfl (pa_cons (pv 0) (pa_cons (pv 4) pa_nil)))))))), ?_⟩
    walk_at "go"
    have lg : lo.natAbs.log2 < 1920 := by
      rcases Nat.eq_zero_or_pos lo.natAbs with z | z
      · rw [z]; decide
      · exact Nat.lt_trans ((Nat.log2_lt (by omega)).mpr (show lo.natAbs < 2 ^ 17 by omega)) (by decide)
    refine ⟨lo, rfl, lg, ?_⟩
    walk_at "go"
    · refine g_pick (by assumption) (by walk_at "spl") (by walk_at "mem") (by simp) (by simp) fun v H4 hv h4 => ?_
      refine q v [_, _, _, _, _, _] H4 ?_ h4
      simp only [List.mem_cons, List.not_mem_nil, or_false] at hv
      rcases hv with rfl | rfl | rfl | rfl
      all_goals exact ⟨decide_eq_false (by omega), _, fun H hz => Dn.int⟩
    · refine g_pick (by assumption) (by walk_at "spl") (by walk_at "mem") (by simp) (by simp) fun v H4 hv h4 => ?_
      refine q v [_, _, _, _, _, _] H4 ?_ h4
      simp only [List.mem_cons, List.not_mem_nil, or_false] at hv
      rcases hv with rfl | rfl | rfl | rfl | rfl | rfl | rfl | rfl | rfl | rfl
      · exact ⟨rfl, _, fun H hz => Dn.bl⟩
      · exact ⟨rfl, _, fun H hz => Dn.bl⟩
      · exact ⟨rfl, _, fun H hz => Dn.non⟩
      · exact ⟨rfl, _, fun H hz => Dn.str⟩
      · exact ⟨rfl, _, fun H hz => Dn.str⟩
      · exact ⟨rfl, _, fun H hz => Dn.str⟩
      · exact ⟨rfl, .list [], fun H hz => Dn.lt (n := 0) hz (by walk_at "mem") (by simp) .nil⟩
      · exact ⟨rfl, .list [.int lo], fun H hz => Dn.lt (n := 0) hz (by walk_at "mem") (by simp) (.cons (Dn.sc (.int _)) .nil)⟩
      · exact ⟨rfl, .tuple [.int hi], fun H hz => Dn.tp (n := 0) hz (by walk_at "mem") (by simp) (.cons (Dn.sc (.int _)) .nil)⟩
      · exact ⟨rfl, .tuple [], fun H hz => Dn.tp (n := 0) hz (by walk_at "mem") (by simp) .nil⟩
end
end K24
set_option Elab.async false
set_option linter.all false
set_option maxRecDepth 100000
set_option maxHeartbeats 4000000
namespace K24
open PySem PySem.Spec PyProof.Rows L2 Wk
local macro_rules | `(tactic| walk_at "u1") => `(tactic| fail "no more")
local macro_rules | `(tactic| walk_at "pos") => `(tactic| first | assumption | omega | decide | (simp only [Int.ofNat_eq_natCast] at *; omega))
local macro_rules | `(tactic| walk_at "sz") => `(tactic| first
  | (simp only [List.length_cons, List.length_nil]; decide)
  | exact Evl.sz_of (by omega)
  | exact Evl.sz_lt (by omega)
  | exact Evl.sz_of (by simp only [List.length_map, List.length_append, List.length_cons, List.length_nil, List.length_replicate]; omega)
  | exact Evl.sz_lt (by simp only [List.length_map, List.length_append, List.length_cons, List.length_nil, List.length_replicate]; omega))
local macro_rules | `(tactic| walk_at "cond") => `(tactic| first
  | exact Or.inr ⟨by decide, by decide⟩
  | (show (0 : Int) < _; first | decide | assumption | omega)
  | exact Or.inl ⟨by omega, by omega⟩
  | exact Or.inr ⟨by omega, by omega⟩
  | exact ⟨by decide, by decide, by decide⟩
  | exact log2_lt (by omega) (by omega)
  | exact ⟨by omega, by omega⟩)
local macro_rules | `(tactic| walk_at "ty") => `(tactic| first
  | exact ty_int | exact ty_bl | exact ty_str | exact ty_non
  | exact ty_L (by assumption) | exact ty_T (by assumption)
  | exact ty_L (SqL.of (by assumption)) | exact ty_T (SqT.of (by assumption)))
local macro_rules | `(tactic| walk_at "kit") => `(tactic| first
  | exact k_ii | exact k_ib | exact k_is | exact k_il | exact k_it
  | exact k_bb | exact k_bi | exact k_bs | exact k_bl | exact k_bt
  | exact k_ss | exact k_sb | exact k_si | exact k_sl | exact k_st
  | exact k_ll | exact k_lb | exact k_li | exact k_ls | exact k_lt
  | exact k_tt | exact k_tb | exact k_ti | exact k_ts | exact k_tl
  | exact k_nn | exact k_ni | exact k_ns | exact k_nl | exact k_nt)
local macro_rules | `(tactic| walk_at "s1") => `(tactic| first
  | with_reducible refine w_seq ?_
  | with_reducible refine w_set ?_
  | with_reducible refine w_op ?_
  | ((with_reducible refine' w_var ?h1 ?_); (case h1 => rfl))
  | with_reducible refine w_c ?_
  | with_reducible refine w_cb ?_
  | with_reducible refine w_cons ?_
  | with_reducible refine w_nil ?_
  | with_reducible refine w_I0 ?_
  | ((with_reducible refine' w_I ?c1 ?_); case c1 => walk_at "cond")
  | with_reducible refine w_ret ?_
  | with_reducible refine w_next ?_
  | with_reducible refine w_ifS ?_
  | with_reducible refine w_test ?_
  | with_reducible refine w_tB ?_
  | with_reducible refine w_k ?_
  | with_reducible refine w_eqI ?_
  | with_reducible refine w_neI ?_
  | with_reducible refine w_eqS ?_
  | with_reducible refine w_neS ?_
  | with_reducible refine w_and ?_
  | with_reducible refine w_or ?_
  | with_reducible refine w_not ?_
  | with_reducible refine w_andV ?_
  | with_reducible refine w_orV ?_
  | with_reducible refine w_notV ?_
  | with_reducible refine w_ifE ?_
  | with_reducible refine w_true ?_
  | with_reducible refine w_false ?_
  | with_reducible refine w_ntrue ?_
  | with_reducible refine w_nfalse ?_
  | with_reducible refine w_call ?_
  | with_reducible refine c_int ?_
  | with_reducible refine c_abs ?_
  | with_reducible refine c_max ?_
  | with_reducible refine c_min ?_
  | with_reducible refine w_drop ?_
  | with_reducible refine w_sfld ?_
  | with_reducible refine w_meth ?_
  | with_reducible refine w_make ?_
  | with_reducible refine w_prop ?_
  | with_reducible refine w_callK ?_
  | with_reducible refine w_callN ?_
  | with_reducible refine w_star ?_
  | with_reducible refine w_gcons ?_
  | with_reducible refine w_gname ?_
  | with_reducible refine w_gnil ?_
  | with_reducible refine w_retN ?_
  | with_reducible refine w_tup ?_
  | with_reducible refine w_lst ?_
  | with_reducible refine w_fld ?_
  | with_reducible refine w_bm ?_
  | with_reducible refine w_bm0 ?_
  | with_reducible refine w_forL ?_
  | with_reducible refine w_forT ?_
  | with_reducible refine w_forS ?_
  | with_reducible refine w_forR ?_
  | with_reducible refine w_lcR ?_
  | with_reducible refine w_lcL ?_
  | with_reducible refine w_lcT ?_
  | with_reducible refine w_isN ?_
  | with_reducible refine w_notN ?_
  | with_reducible refine w_asg ?_
  | with_reducible refine w_gsub ?_
  | ((with_reducible refine' w_aug ?h1 ?_); (case h1 => rfl))
  | with_reducible refine w_augS ?_
  | with_reducible refine w_ipI ?_
  | with_reducible refine w_un ?_
  | with_reducible refine w_U ?_
  | ((with_reducible refine' w_iteF ?f1 ?_); case f1 => (first | (intro h; cases h; done) | decide))
  | ((with_reducible refine' w_iteT ?f1 ?_); case f1 => rfl)
  | ((with_reducible refine' w_iteNF ?f1 ?_); case f1 => rfl)
  | ((with_reducible refine' w_iteNT ?f1 ?_); case f1 => (first | (intro h; cases h; done) | decide))
  | ((with_reducible refine' c_isi ?t1 ?k1 ?_); (case t1 => walk_at "ty"); (case k1 => walk_at "kit"))
  | ((with_reducible refine' w_eq ?e1 ?_); case e1 => rfl)
  | ((with_reducible refine' w_ne ?e1 ?_); case e1 => rfl)
  | walk_at "u1")
local macro_rules | `(tactic| walk_at "s") => `(tactic| repeat walk_at "s1")
local macro_rules | `(tactic| walk_at "mem") => `(tactic| first | with_reducible exact List.mem_cons_self .. | ((with_reducible refine' List.mem_cons_of_mem _ ?q); (case q => walk_at "mem")) | assumption | ((with_reducible refine' List.mem_append_right _ ?q); (case q => walk_at "mem")) | (exact List.mem_append_left _ (by assumption)))
local macro_rules | `(tactic| walk_at "pk") => `(tactic| first | with_reducible exact Pk.here | ((with_reducible refine' Pk.there ?q); (case q => walk_at "pk")) | ((with_reducible refine' Pk.app ?q); (case q => walk_at "pk")))
local macro_rules | `(tactic| walk_at "pkb") => `(tactic| first | with_reducible exact PkB.here | ((with_reducible refine' PkB.there ?q); (case q => walk_at "pkb")) | ((with_reducible refine' PkB.app ?q); (case q => walk_at "pkb")))
local macro_rules | `(tactic| walk_at "spl") => `(tactic| first | with_reducible exact Spl.nil | ((with_reducible refine' Spl.cons ?h ?t); (case h => walk_at "pk"); (case t => walk_at "spl")) | ((with_reducible refine' Spl.blk ?h ?t); (case h => walk_at "pkb"); (case t => walk_at "spl")))
local macro_rules | `(tactic| walk_at "sbx") => `(tactic| first | with_reducible exact Sb.refl | with_reducible exact Sb.nil | with_reducible exact Sb.left | ((with_reducible refine' Sb.cons ?h ?t); (case h => walk_at "pk"); (case t => walk_at "sbx")) | ((with_reducible refine' Sb.blk ?h ?t); (case h => walk_at "pkb"); (case t => walk_at "sbx")) | ((with_reducible refine' Sb.drop ?q); (case q => walk_at "sbx")) | ((with_reducible refine' Sb.right ?q); (case q => walk_at "sbx")))
local macro_rules | `(tactic| walk_at "hd") => `(tactic| first | assumption | exact Hd.sb (by assumption) (by walk_at "sbx"))
local macro_rules | `(tactic| walk_at "sq") => `(tactic| first
  | assumption
  | exact Hd.sqL (by assumption) (by walk_at "mem")
  | exact Hd.sqT (by assumption) (by walk_at "mem")
  | exact Hd.sqF (by assumption) (by walk_at "mem")
  | (refine .inl ?_; walk_at "sq")
  | (refine .inr ?_; walk_at "sq"))
local macro_rules | `(tactic| walk_at "at") => `(tactic| first | rfl | assumption | exact atI_nat (by assumption))
local macro_rules | `(tactic| walk_at "dn1") => `(tactic| first
  | exact Dn.int | exact Dn.str | exact Dn.non | exact Dn.bl | assumption
  | ((refine' Dn.tp ?a1 ?m1 ?l1 ?p1); (case a1 => assumption); (case m1 => walk_at "mem"); (case l1 => (simp only [List.length_cons, List.length_nil]; omega)); (case p1 => walk_at "dns"))
  | ((refine' Dn.lt ?a1 ?m1 ?l1 ?p1); (case a1 => assumption); (case m1 => walk_at "mem"); (case l1 => (simp only [List.length_cons, List.length_nil]; omega)); (case p1 => walk_at "dns")))
local macro_rules | `(tactic| walk_at "dns") => `(tactic| first | exact Paired.nil | exact Dn.ints | ((refine' Paired.cons ?a1 ?b1); (case a1 => walk_at "dn1"); (case b1 => walk_at "dns")))
local macro_rules | `(tactic| walk_at "g1") => `(tactic| first
  | ((with_reducible refine' g_ixI ?h1 ?h2 ?h3 ?_); (case h1 => assumption); (case h2 => walk_at "mem"); (case h3 => omega); intro z hz)
  | ((with_reducible refine' g_ixIT ?h1 ?h2 ?h3 ?_); (case h1 => assumption); (case h2 => walk_at "mem"); (case h3 => omega); intro z hz)
  | ((with_reducible refine' g_setI ?h1 ?h2 ?h3 ?_); (case h1 => assumption); (case h2 => walk_at "pk"); (case h3 => omega); intro H2 hh2)
  | ((with_reducible refine' w_ixL ?h1 ?h2 ?_); (case h1 => walk_at "sq"); (case h2 => walk_at "at"))
  | ((with_reducible refine' w_ixT ?h1 ?h2 ?_); (case h1 => walk_at "sq"); (case h2 => walk_at "at"))
  | ((with_reducible refine' w_ixAny ?h1 ?h2 ?_); (case h1 => walk_at "sq"); (case h2 => walk_at "at"))
  | ((with_reducible refine' c_lenA ?h1 ?_); (case h1 => walk_at "sq"))
  | ((with_reducible refine' c_isi ?t1 ?k1 ?_); (case t1 => first | exact ty_T (by walk_at "sq") | exact ty_L (by walk_at "sq")); (case k1 => walk_at "kit"))
  | ((with_reducible refine' g_lst ?h1 ?h2 ?_); (case h1 => assumption); (case h2 => walk_at "sz"); intro p H2 hh2)
  | ((with_reducible refine' g_tup ?h1 ?h2 ?_); (case h1 => assumption); (case h2 => walk_at "sz"); intro p H2 hh2)
  | ((with_reducible refine' g_dict ?h1 ?_); (case h1 => assumption); intro p H2 hh2)
  | ((with_reducible refine' g_listL ?h1 ?h2 ?_); (case h1 => assumption); (case h2 => walk_at "sq"); intro p H2 hh2)
  | ((with_reducible refine' g_listT ?h1 ?h2 ?_); (case h1 => assumption); (case h2 => walk_at "sq"); intro p H2 hh2)
  | ((with_reducible refine' g_tupL ?h1 ?h2 ?_); (case h1 => assumption); (case h2 => walk_at "sq"); intro p H2 hh2)
  | ((with_reducible refine' g_set ?h1 ?h2 ?h3 ?_); (case h1 => assumption); (case h2 => walk_at "pk"); (case h3 => first | rfl | assumption | exact Evl.ixN_nat (by first | omega | (simp only [List.length_cons, List.length_nil]; omega))); intro H2 hh2)
  | ((with_reducible refine' g_kbm ?h1 ?h2 ?_); (case h1 => assumption); (case h2 => walk_at "mem"))
  | ((with_reducible refine' g_kbm0 ?h1 ?h2 ?_); (case h1 => assumption); (case h2 => walk_at "mem"))
  | ((with_reducible refine' g_app ?h1 ?h2 ?h3 ?_); (case h1 => assumption); (case h2 => walk_at "pk"); (case h3 => walk_at "sz"); intro H2 hh2)
  | ((with_reducible refine' g_kapp ?h1 ?h2 ?h3 ?_); (case h1 => assumption); (case h2 => walk_at "pk"); (case h3 => walk_at "sz"); intro H2 hh2)
  | ((with_reducible refine' g_fld ?h1 ?h2 ?h3 ?h4 ?h5 ?_); (case h1 => assumption); (case h2 => walk_at "mem"); (case h3 => assumption); (case h4 => assumption); (case h5 => rfl))
  | ((with_reducible refine' g_sfld ?h1 ?h2 ?h3 ?h4 ?h5 ?_); (case h1 => assumption); (case h2 => walk_at "pk"); (case h3 => assumption); (case h4 => assumption); (case h5 => decide); intro H2 hh2)
  | ((with_reducible refine' g_meth ?h1 ?h2 ?h3 ?_); (case h1 => assumption); (case h2 => walk_at "mem"); (case h3 => rfl))
  | ((with_reducible refine' g_prop ?h1 ?h2 ?_); (case h1 => assumption); (case h2 => walk_at "mem"))
  | ((with_reducible refine' g_make ?h1 ?_); (case h1 => assumption); intro x H2 hh2)
  | ((with_reducible refine' g_cat ?h1 ?h2 ?h3 ?h4 ?_); (case h1 => assumption); (case h2 => walk_at "mem"); (case h3 => walk_at "mem"); (case h4 => walk_at "sz"); intro p H2 hh2)
  | ((with_reducible refine' g_inT ?h1 ?h2 ?h3 ?h4 ?h5 ?_); (case h1 => assumption); (case h2 => walk_at "mem"); (case h3 => rfl); (case h4 => rfl); (case h5 => rfl)))
local macro_rules | `(tactic| walk_at "gs") => `(tactic| repeat first | walk_at "s1" | walk_at "g1")
local macro_rules | `(tactic| walk_at "ite") => `(tactic| first
  | ((with_reducible refine' w_iteT ?h1 ?_); (case h1 => omega))
  | ((with_reducible refine' w_iteF ?h1 ?_); (case h1 => omega))
  | (with_reducible refine w_ite ?_ ?_ <;> intro hq)
  | ((with_reducible refine' w_iteNT ?h1 ?_); (case h1 => omega))
  | ((with_reducible refine' w_iteNF ?h1 ?_); (case h1 => omega))
  | (with_reducible refine w_iteN ?_ ?_ <;> intro hq))
local macro_rules | `(tactic| walk_at "go") => `(tactic| repeat' first | walk_at "s1" | walk_at "g1" | walk_at "ite")
local macro_rules | `(tactic| walk_at "g1") => `(tactic| first
  | ((with_reducible refine' g_take1 ?h1 ?h2 ?h3 ?h4 ?_); (case h1 => assumption); (case h2 => walk_at "spl"); (case h3 => omega); (case h4 => omega); intro k H2 hk1 hh2)
  | ((with_reducible refine' g_take ?h1 ?h2 ?h4 ?_); (case h1 => assumption); (case h2 => walk_at "spl"); (case h4 => omega); intro k H2 hk1 hh2)
  | ((with_reducible refine' g_betweenN ?h1 ?h2 ?h5 ?h3 ?h4 ?_); (case h1 => assumption); (case h2 => walk_at "spl"); (case h5 => omega); (case h3 => omega); (case h4 => omega); intro k H2 hk1 hk2 hh2)
  | ((with_reducible refine' g_between ?h1 ?h2 ?h3 ?h4 ?_); (case h1 => assumption); (case h2 => walk_at "spl"); (case h3 => omega); (case h4 => omega); intro k H2 hk1 hk2 hh2)
  | ((with_reducible refine' g_size ?h1 ?h2 ?h3 ?h4 ?_); (case h1 => assumption); (case h2 => walk_at "spl"); (case h3 => omega); (case h4 => omega); intro k H2 hk1 hh2)
  | ((with_reducible refine' g_word ?h1 ?h2 ?_); (case h1 => assumption); (case h2 => walk_at "spl"); intro k H2 hk1 hh2))
local macro_rules | `(tactic| walk_at "g1") => `(tactic| first | with_reducible refine w_sl ?_ | with_reducible refine w_part ?_ | with_reducible refine w_noPart ?_ | with_reducible refine w_exI ?_)
local macro_rules | `(tactic| walk_at "g1") => `(tactic| first | with_reducible refine w_din ?_ | with_reducible refine w_dnotin ?_ | with_reducible refine w_dget ?_ | with_reducible refine w_dput ?_ | with_reducible refine w_ddel ?_ | with_reducible refine w_dpop ?_)
section
variable {P : Program} {w : World} {K : PySem.W.Frag} {mg : Str → Option Value} {base : Heap} {aREG aOPS : Addr}
section
variable {C CE W fI fE : Addr} {fdE : FuncData}
/-- a wrong priority; or a right one and a wrong count -/
def sp_boundX (K : PySem.W.Frag) (CE : Addr) : Sp := fun vs H Q E => ∃ v n : V, vs = [v, n] ∧
  ((∃ t, KH K H v t ∧ isR v 0 7 = false ∧ ∀ H' d, New H H' d (.xd [("name", .str "priority")]) → E (.ref CE) (some d) H') ∨
   ∃ (lo : Nat) (t : String), v = .int lo ∧ lo ≤ 7 ∧ KH K H n t ∧ isR n 1 8 = false ∧ ∀ H' d, New H H' d (.xd [("name", .str "count")]) → E (.ref CE) (some d) H')
theorem x_bound {p f : Addr} {fd : FuncData} (T : Txt K mg aREG aOPS) (F : BoF K f fd) (sm : SMet K C "bound" p f) (c_ask_range : C8.Cal P w K mg base 3 "ask_range" (sp_ask K) []) (cr : CalN P w K mg base 3 "ask_range" (sp_askX K CE)) : CalSN P w K mg base 4 C "bound" (sp_boundX K CE) := by
  obtain ⟨ds, r, b⟩ := F.binds1 (ps := ["priority", "count"]) 2 1 (by simp) rfl fun T kV doc pm an cdv ct us its h1 h2 => match us, its, h1, h2 with | [_, _], [_], _, _ => ⟨_, rfl, rfl⟩
  cases r
  refine ⟨p, f, fd, _, sm, F.ok sc_Ages__bound (fun vs H Q E h => ?_) (fun cdv A outer s H vs Q E hr h => ?_), F.kp, b⟩
  · obtain ⟨v, n, rfl, _⟩ := h
    rfl
  · obtain ⟨v, n, rfl, h⟩ := h
    have tk := L2N.takes_of (X := cxOf (L2N.CX P w) P w K mg base nm_Ages__bound "Ages.bound" (defScope s_Ages__bound) f cdv A outer s H E) (E := E) rfl rfl rfl rfl
    rcases h with ⟨t, kh, hb, q⟩ | ⟨lo, t, rfl, hlo, kh, hb, q⟩
    · refine ⟨_, pss_cons (ps_expr (pe_cN cr hr (by decide) tk rfl (pa_cons pe_str (pa_cons (pv 0) (pa_cons pe_int (pa_cons pe_int pa_nil)))))) pss_never, ?_⟩
      walk_at "s"
      unfold tCallS
      walk_at "s"
      exact ⟨"priority", v, t, 0, 7, rfl, by decide +kernel, kh, hb, fun H' d n => q H' d n⟩
    · refine ⟨_, pss_cons (ps_expr (C8.pe_c c_ask_range hr (by decide) rfl (pa_cons pe_str (pa_cons (pv 0) (pa_cons pe_int (pa_cons pe_int pa_nil)))))) (pss_cons (ps_expr (pe_cN cr hr (by decide) tk rfl (pa_cons pe_str (pa_cons (pv 1) (pa_cons pe_int (pa_cons pe_int pa_nil)))))) pss_never), ?_⟩
      walk_at "s"
      refine u_ask ⟨by omega, by omega⟩ ?_
      walk_at "s"
      unfold tCallS
      walk_at "s"
      exact ⟨"count", n, t, 1, 8, rfl, by decide +kernel, kh, hb, fun H' d n => q H' d n⟩
def sp_waitX (K : PySem.W.Frag) (CE : Addr) : Sp := fun vs H Q E => ∃ (l v : V) (t : String), vs = [l, v] ∧ KH K H v t ∧ isR v 0 7 = false ∧ ∀ H' d, New H H' d (.xd [("name", .str "pid")]) → E (.ref CE) (some d) H'
theorem x_wait (T : Txt K mg aREG aOPS) (d : DefAt K mg "longest_wait" s_longest_wait) (cr : CalN P w K mg base 3 "ask_range" (sp_askX K CE)) : CalN P w K mg base 4 "longest_wait" (sp_waitX K CE) := by
  obtain ⟨f, fd, F, hm⟩ := d
  refine ⟨f, fd, ["log", "pid"], FunD.ok F sc_longest_wait (fun vs H Q E h => ?_) (fun cdv A outer s H vs Q E hr h => ?_), hm, F.kp, FunD.bindsN F fun _ _ _ _ _ _ us hl => match us, hl with | [_, _], _ => rfl⟩
  · obtain ⟨l, v, t, rfl, _⟩ := h
    rfl
  · obtain ⟨l, v, t, rfl, kh, hb, q⟩ := h
    have tk := L2N.takes_of (X := cxOf (L2N.CX P w) P w K mg base nm_longest_wait "longest_wait" (defScope s_longest_wait) f cdv A outer s H E) (E := E) rfl rfl rfl rfl
    refine ⟨_, pss_cons (ps_expr (pe_cN cr hr (by decide) tk rfl (pa_cons pe_str (pa_cons (pv 1) (pa_cons pe_int (pa_cons pe_int pa_nil)))))) pss_never, ?_⟩
    walk_at "s"
    unfold tCallS
    walk_at "s"
    exact ⟨"pid", v, t, 0, 7, rfl, by decide +kernel, kh, hb, fun H' d n => q H' d n⟩
def BadBo (K : PySem.W.Frag) (H : Hp) (v n : V) (z : Str) : Prop := (∃ t, KH K H v t ∧ isR v 0 7 = false ∧ z = "priority") ∨ ∃ (lo : Nat) (t : String), v = .int lo ∧ lo ≤ 7 ∧ KH K H n t ∧ isR n 1 8 = false ∧ z = "count"
def sp_bref (K : PySem.W.Frag) : Sp := fun vs H Q _ => ∃ (v n : V) (z : Str) (R : List Cell), vs = [v, n] ∧ BadBo K H v n z ∧ Hd H R ∧ ∀ t H', Hd H' (tupC t [.str "BadArgument", .str z] :: R) → Q (.ref t) H'
theorem c_bref (T : Txt K mg aREG aOPS) (R : ErrC K mg CE W fI) (gA : ∃ u, mg "Ages" = some u ∧ RelV (.ref C) u) (d : DefAt K mg "_law_bound_refused" s__law_bound_refused) (cx_bound : CalSN P w K mg base 4 C "bound" (sp_boundX K CE))
    (F_err : FnE P w K mg base C8.CX0 1 fE fdE ["e"] (sp_err CE)) (F_errM : mg "_law_error" = some (.ref fE)) (F_errK : PySem.W.keepIn K (.ref fE) = true) (F_errB : Binds K fdE ["e"] []) : C8.Cal P w K mg base 5 "_law_bound_refused" (sp_bref K) [] := by
  refine mk d sc__law_bound_refused (fun _ _ _ _ _ _ us hl => match us, hl with | [_, _], _ => rfl) (fun vs H Q E h => ?_) (fun f cdv A outer s H vs Q E hr h => ?_)
  · obtain ⟨v, n, z, R0, rfl, _⟩ := h
    rfl
  · obtain ⟨v, n, z, R0, rfl, hb, hh, q⟩ := h
    refine ⟨_, (pss_cons (L2N.ps_try_as rfl rfl sc__law_bound_refused.nd (i := 2) rfl rfl ⟨rfl, by decide, .inl R.g_W⟩ takes0N (fun W pn xe tk pw => (pss_one (ps_expr (Wk.pe_stN cx_bound hr (by first | decide | omega) tk (C8.pe_gc rfl gA) (pa_cons (pv 0) (pa_cons (pv 1) pa_nil)))))) (fun a oe cls d pn hz hf => pss_one (ps_ret (pe_callE (E := fun _ => C8.E0) (imp_err hz hf) F_err (rH hr) (hot_err hz hf) (List.mem_cons_self ..) rfl F_errM F_errK F_errB (fun _ _ _ _ _ _ _ h => h.elim) (pa_cons (pv 2) pa_nil)))))
  (pss_one (ps_ret pe_non))), ?_⟩
    have fin : ∀ (z : Str), (∀ t H', Hd H' (tupC t [.str "BadArgument", .str z] :: R0) → Q (.ref t) H') → ∀ (d : Addr) (H' : Hp), New H H' d (.xd [("name", .str z)]) → ∀ t2 H3, Upt [] H' H3 → H' t2 = none → H3 t2 = some (.tup [.str "BadArgument", .str z]) → Q (.ref t2) H3 := fun z q d H' nd t2 H3 u ht e' => q t2 H3 (new_tup' (hh.upt0 nd.keep) u ht e')
    walk_at "gs"
    refine w_stS ?_
    walk_at "gs"
    refine ⟨v, n, rfl, ?_⟩
    rcases hb with ⟨t, kh, hb, rfl⟩ | ⟨lo, t, rfl, hlo, kh, hb, rfl⟩
    · refine .inl ⟨t, kh, hb, fun H' d nd => ⟨true, R.exW, fun _ ea hea => ?_, fun z => nomatch z⟩⟩
      refine w_callS ?_
      walk_at "gs"
      exact ⟨d, "priority", rfl, rfl, rfl, nd.at_, fun t2 H3 u ht e' => fin _ q d H' nd t2 H3 u ht e'⟩
    · refine .inr ⟨lo, t, rfl, hlo, kh, hb, fun H' d nd => ⟨true, R.exW, fun _ ea hea => ?_, fun z => nomatch z⟩⟩
      refine w_callS ?_
      walk_at "gs"
      exact ⟨d, "count", rfl, rfl, rfl, nd.at_, fun t2 H3 u ht e' => fin _ q d H' nd t2 H3 u ht e'⟩
def sp_wref (K : PySem.W.Frag) : Sp := fun vs H Q _ => ∃ (l v : V) (t : String) (R : List Cell), vs = [l, v] ∧ KH K H v t ∧ isR v 0 7 = false ∧ Hd H R ∧ ∀ t H', Hd H' (tupC t [.str "BadArgument", .str "pid"] :: R) → Q (.ref t) H'
theorem c_wref (T : Txt K mg aREG aOPS) (R : ErrC K mg CE W fI) (d : DefAt K mg "_law_wait_refused" s__law_wait_refused) (cx_longest_wait : CalN P w K mg base 4 "longest_wait" (sp_waitX K CE))
    (F_err : FnE P w K mg base C8.CX0 1 fE fdE ["e"] (sp_err CE)) (F_errM : mg "_law_error" = some (.ref fE)) (F_errK : PySem.W.keepIn K (.ref fE) = true) (F_errB : Binds K fdE ["e"] []) : C8.Cal P w K mg base 5 "_law_wait_refused" (sp_wref K) [] := by
  refine mk d sc__law_wait_refused (fun _ _ _ _ _ _ us hl => match us, hl with | [_, _], _ => rfl) (fun vs H Q E h => ?_) (fun f cdv A outer s H vs Q E hr h => ?_)
  · obtain ⟨l, v, t, R0, rfl, _⟩ := h
    rfl
  · obtain ⟨l, v, t, R0, rfl, kh, hb, hh, q⟩ := h
    refine ⟨_, (pss_cons (L2N.ps_try_as rfl rfl sc__law_wait_refused.nd (i := 2) rfl rfl ⟨rfl, by decide, .inl R.g_W⟩ takes0N (fun W pn xe tk pw => (pss_one (ps_expr (pe_cN cx_longest_wait hr (by first | decide | omega) tk rfl (pa_cons (pv 0) (pa_cons (pv 1) pa_nil)))))) (fun a oe cls d pn hz hf => pss_one (ps_ret (pe_callE (E := fun _ => C8.E0) (imp_err hz hf) F_err (rH hr) (hot_err hz hf) (List.mem_cons_self ..) rfl F_errM F_errK F_errB (fun _ _ _ _ _ _ _ h => h.elim) (pa_cons (pv 2) pa_nil)))))
  (pss_one (ps_ret pe_non))), ?_⟩
    walk_at "gs"
    unfold tCallS
    walk_at "gs"
    refine ⟨l, v, t, rfl, kh, hb, fun H' d nd => ⟨true, R.exW, fun _ ea hea => ?_, fun z => nomatch z⟩⟩
    walk_at "gs"
    exact ⟨d, "pid", rfl, rfl, rfl, nd.at_, fun t2 H3 u ht e' => q t2 H3 (new_tup' (hh.upt0 nd.keep) u ht e')⟩
theorem ck_wait (T : Txt K mg aREG aOPS) (d : DefAt K mg "longest_wait" s_longest_wait) (c_ask_range : C8.Cal P w K mg base 3 "ask_range" (sp_ask K) []) : CalK P w K mg base 4 "longest_wait" (sp_pwait K) 0 ["pid", "log"] (fun vs zs => vs ++ zs.reverse) := by
  obtain ⟨f, fd, F, hm⟩ := d
  exact ⟨f, fd, _, fun us ws => us ++ ws.reverse, fo_pwait T F c_ask_range, hm, F.kp, kbn0 F (fun r1 r2 => r1.append (vals_rev2 r2)) fun _ _ _ _ _ _ us ws h1 h2 => match us, ws, h1, h2 with | [], [_, _], _, _ => rfl⟩
end
end
end K24
set_option Elab.async false
set_option linter.all false
set_option maxRecDepth 100000
set_option maxHeartbeats 4000000
namespace K24
open PySem PySem.Spec PyProof.Rows L2 Wk
local macro_rules | `(tactic| walk_at "u1") => `(tactic| fail "no more")
local macro_rules | `(tactic| walk_at "pos") => `(tactic| first | assumption | omega | decide | (simp only [Int.ofNat_eq_natCast] at *; omega))
local macro_rules | `(tactic| walk_at "sz") => `(tactic| first
  | (simp only [List.length_cons, List.length_nil]; decide)
  | exact Evl.sz_of (by omega)
  | exact Evl.sz_lt (by omega)
  | exact Evl.sz_of (by simp only [List.length_map, List.length_append, List.length_cons, List.length_nil, List.length_replicate]; omega)
  | exact Evl.sz_lt (by simp only [List.length_map, List.length_append, List.length_cons, List.length_nil, List.length_replicate]; omega))
local macro_rules | `(tactic| walk_at "cond") => `(tactic| first
  | exact Or.inr ⟨by decide, by decide⟩
  | (show (0 : Int) < _; first | decide | assumption | omega)
  | exact Or.inl ⟨by omega, by omega⟩
  | exact Or.inr ⟨by omega, by omega⟩
  | exact ⟨by decide, by decide, by decide⟩
  | exact log2_lt (by omega) (by omega)
  | exact ⟨by omega, by omega⟩)
local macro_rules | `(tactic| walk_at "ty") => `(tactic| first
  | exact ty_int | exact ty_bl | exact ty_str | exact ty_non
  | exact ty_L (by assumption) | exact ty_T (by assumption)
  | exact ty_L (SqL.of (by assumption)) | exact ty_T (SqT.of (by assumption)))
local macro_rules | `(tactic| walk_at "kit") => `(tactic| first
  | exact k_ii | exact k_ib | exact k_is | exact k_il | exact k_it
  | exact k_bb | exact k_bi | exact k_bs | exact k_bl | exact k_bt
  | exact k_ss | exact k_sb | exact k_si | exact k_sl | exact k_st
  | exact k_ll | exact k_lb | exact k_li | exact k_ls | exact k_lt
  | exact k_tt | exact k_tb | exact k_ti | exact k_ts | exact k_tl
  | exact k_nn | exact k_ni | exact k_ns | exact k_nl | exact k_nt)
local macro_rules | `(tactic| walk_at "s1") => `(tactic| first
  | with_reducible refine w_seq ?_
  | with_reducible refine w_set ?_
  | with_reducible refine w_op ?_
  | ((with_reducible refine' w_var ?h1 ?_); (case h1 => rfl))
  | with_reducible refine w_c ?_
  | with_reducible refine w_cb ?_
  | with_reducible refine w_cons ?_
  | with_reducible refine w_nil ?_
  | with_reducible refine w_I0 ?_
  | ((with_reducible refine' w_I ?c1 ?_); case c1 => walk_at "cond")
  | with_reducible refine w_ret ?_
  | with_reducible refine w_next ?_
  | with_reducible refine w_ifS ?_
  | with_reducible refine w_test ?_
  | with_reducible refine w_tB ?_
  | with_reducible refine w_k ?_
  | with_reducible refine w_eqI ?_
  | with_reducible refine w_neI ?_
  | with_reducible refine w_eqS ?_
  | with_reducible refine w_neS ?_
  | with_reducible refine w_and ?_
  | with_reducible refine w_or ?_
  | with_reducible refine w_not ?_
  | with_reducible refine w_andV ?_
  | with_reducible refine w_orV ?_
  | with_reducible refine w_notV ?_
  | with_reducible refine w_ifE ?_
  | with_reducible refine w_true ?_
  | with_reducible refine w_false ?_
  | with_reducible refine w_ntrue ?_
  | with_reducible refine w_nfalse ?_
  | with_reducible refine w_call ?_
  | with_reducible refine c_int ?_
  | with_reducible refine c_abs ?_
  | with_reducible refine c_max ?_
  | with_reducible refine c_min ?_
  | with_reducible refine w_drop ?_
  | with_reducible refine w_sfld ?_
  | with_reducible refine w_meth ?_
  | with_reducible refine w_make ?_
  | with_reducible refine w_prop ?_
  | with_reducible refine w_callK ?_
  | with_reducible refine w_callN ?_
  | with_reducible refine w_star ?_
  | with_reducible refine w_gcons ?_
  | with_reducible refine w_gname ?_
  | with_reducible refine w_gnil ?_
  | with_reducible refine w_retN ?_
  | with_reducible refine w_tup ?_
  | with_reducible refine w_lst ?_
  | with_reducible refine w_fld ?_
  | with_reducible refine w_bm ?_
  | with_reducible refine w_bm0 ?_
  | with_reducible refine w_forL ?_
  | with_reducible refine w_forT ?_
  | with_reducible refine w_forS ?_
  | with_reducible refine w_forR ?_
  | with_reducible refine w_lcR ?_
  | with_reducible refine w_lcL ?_
  | with_reducible refine w_lcT ?_
  | with_reducible refine w_isN ?_
  | with_reducible refine w_notN ?_
  | with_reducible refine w_asg ?_
  | with_reducible refine w_gsub ?_
  | ((with_reducible refine' w_aug ?h1 ?_); (case h1 => rfl))
  | with_reducible refine w_augS ?_
  | with_reducible refine w_ipI ?_
  | with_reducible refine w_un ?_
  | with_reducible refine w_U ?_
  | ((with_reducible refine' w_iteF ?f1 ?_); case f1 => (first | (intro h; cases h; done) | decide))
  | ((with_reducible refine' w_iteT ?f1 ?_); case f1 => rfl)
  | ((with_reducible refine' w_iteNF ?f1 ?_); case f1 => rfl)
  | ((with_reducible refine' w_iteNT ?f1 ?_); case f1 => (first | (intro h; cases h; done) | decide))
  | ((with_reducible refine' c_isi ?t1 ?k1 ?_); (case t1 => walk_at "ty"); (case k1 => walk_at "kit"))
  | ((with_reducible refine' w_eq ?e1 ?_); case e1 => rfl)
  | ((with_reducible refine' w_ne ?e1 ?_); case e1 => rfl)
  | walk_at "u1")
local macro_rules | `(tactic| walk_at "s") => `(tactic| repeat walk_at "s1")
local macro_rules | `(tactic| walk_at "mem") => `(tactic| first | with_reducible exact List.mem_cons_self .. | ((with_reducible refine' List.mem_cons_of_mem _ ?q); (case q => walk_at "mem")) | assumption | ((with_reducible refine' List.mem_append_right _ ?q); (case q => walk_at "mem")) | (exact List.mem_append_left _ (by assumption)))
local macro_rules | `(tactic| walk_at "pk") => `(tactic| first | with_reducible exact Pk.here | ((with_reducible refine' Pk.there ?q); (case q => walk_at "pk")) | ((with_reducible refine' Pk.app ?q); (case q => walk_at "pk")))
local macro_rules | `(tactic| walk_at "pkb") => `(tactic| first | with_reducible exact PkB.here | ((with_reducible refine' PkB.there ?q); (case q => walk_at "pkb")) | ((with_reducible refine' PkB.app ?q); (case q => walk_at "pkb")))
local macro_rules | `(tactic| walk_at "spl") => `(tactic| first | with_reducible exact Spl.nil | ((with_reducible refine' Spl.cons ?h ?t); (case h => walk_at "pk"); (case t => walk_at "spl")) | ((with_reducible refine' Spl.blk ?h ?t); (case h => walk_at "pkb"); (case t => walk_at "spl")))
local macro_rules | `(tactic| walk_at "sbx") => `(tactic| first | with_reducible exact Sb.refl | with_reducible exact Sb.nil | with_reducible exact Sb.left | ((with_reducible refine' Sb.cons ?h ?t); (case h => walk_at "pk"); (case t => walk_at "sbx")) | ((with_reducible refine' Sb.blk ?h ?t); (case h => walk_at "pkb"); (case t => walk_at "sbx")) | ((with_reducible refine' Sb.drop ?q); (case q => walk_at "sbx")) | ((with_reducible refine' Sb.right ?q); (case q => walk_at "sbx")))
local macro_rules | `(tactic| walk_at "hd") => `(tactic| first | assumption | exact Hd.sb (by assumption) (by walk_at "sbx"))
local macro_rules | `(tactic| walk_at "sq") => `(tactic| first
  | assumption
  | exact Hd.sqL (by assumption) (by walk_at "mem")
  | exact Hd.sqT (by assumption) (by walk_at "mem")
  | exact Hd.sqF (by assumption) (by walk_at "mem")
  | (refine .inl ?_; walk_at "sq")
  | (refine .inr ?_; walk_at "sq"))
local macro_rules | `(tactic| walk_at "at") => `(tactic| first | rfl | assumption | exact atI_nat (by assumption))
local macro_rules | `(tactic| walk_at "dn1") => `(tactic| first
  | exact Dn.int | exact Dn.str | exact Dn.non | exact Dn.bl | assumption
  | ((refine' Dn.tp ?a1 ?m1 ?l1 ?p1); (case a1 => assumption); (case m1 => walk_at "mem"); (case l1 => (simp only [List.length_cons, List.length_nil]; omega)); (case p1 => walk_at "dns"))
  | ((refine' Dn.lt ?a1 ?m1 ?l1 ?p1); (case a1 => assumption); (case m1 => walk_at "mem"); (case l1 => (simp only [List.length_cons, List.length_nil]; omega)); (case p1 => walk_at "dns")))
local macro_rules | `(tactic| walk_at "dns") => `(tactic| first | exact Paired.nil | exact Dn.ints | ((refine' Paired.cons ?a1 ?b1); (case a1 => walk_at "dn1"); (case b1 => walk_at "dns")))
local macro_rules | `(tactic| walk_at "g1") => `(tactic| first
  | ((with_reducible refine' g_ixI ?h1 ?h2 ?h3 ?_); (case h1 => assumption); (case h2 => walk_at "mem"); (case h3 => omega); intro z hz)
  | ((with_reducible refine' g_ixIT ?h1 ?h2 ?h3 ?_); (case h1 => assumption); (case h2 => walk_at "mem"); (case h3 => omega); intro z hz)
  | ((with_reducible refine' g_setI ?h1 ?h2 ?h3 ?_); (case h1 => assumption); (case h2 => walk_at "pk"); (case h3 => omega); intro H2 hh2)
  | ((with_reducible refine' w_ixL ?h1 ?h2 ?_); (case h1 => walk_at "sq"); (case h2 => walk_at "at"))
  | ((with_reducible refine' w_ixT ?h1 ?h2 ?_); (case h1 => walk_at "sq"); (case h2 => walk_at "at"))
  | ((with_reducible refine' w_ixAny ?h1 ?h2 ?_); (case h1 => walk_at "sq"); (case h2 => walk_at "at"))
  | ((with_reducible refine' c_lenA ?h1 ?_); (case h1 => walk_at "sq"))
  | ((with_reducible refine' c_isi ?t1 ?k1 ?_); (case t1 => first | exact ty_T (by walk_at "sq") | exact ty_L (by walk_at "sq")); (case k1 => walk_at "kit"))
  | ((with_reducible refine' g_lst ?h1 ?h2 ?_); (case h1 => assumption); (case h2 => walk_at "sz"); intro p H2 hh2)
  | ((with_reducible refine' g_tup ?h1 ?h2 ?_); (case h1 => assumption); (case h2 => walk_at "sz"); intro p H2 hh2)
  | ((with_reducible refine' g_dict ?h1 ?_); (case h1 => assumption); intro p H2 hh2)
  | ((with_reducible refine' g_listL ?h1 ?h2 ?_); (case h1 => assumption); (case h2 => walk_at "sq"); intro p H2 hh2)
  | ((with_reducible refine' g_listT ?h1 ?h2 ?_); (case h1 => assumption); (case h2 => walk_at "sq"); intro p H2 hh2)
  | ((with_reducible refine' g_tupL ?h1 ?h2 ?_); (case h1 => assumption); (case h2 => walk_at "sq"); intro p H2 hh2)
  | ((with_reducible refine' g_set ?h1 ?h2 ?h3 ?_); (case h1 => assumption); (case h2 => walk_at "pk"); (case h3 => first | rfl | assumption | exact Evl.ixN_nat (by first | omega | (simp only [List.length_cons, List.length_nil]; omega))); intro H2 hh2)
  | ((with_reducible refine' g_kbm ?h1 ?h2 ?_); (case h1 => assumption); (case h2 => walk_at "mem"))
  | ((with_reducible refine' g_kbm0 ?h1 ?h2 ?_); (case h1 => assumption); (case h2 => walk_at "mem"))
  | ((with_reducible refine' g_app ?h1 ?h2 ?h3 ?_); (case h1 => assumption); (case h2 => walk_at "pk"); (case h3 => walk_at "sz"); intro H2 hh2)
  | ((with_reducible refine' g_kapp ?h1 ?h2 ?h3 ?_); (case h1 => assumption); (case h2 => walk_at "pk"); (case h3 => walk_at "sz"); intro H2 hh2)
  | ((with_reducible refine' g_fld ?h1 ?h2 ?h3 ?h4 ?h5 ?_); (case h1 => assumption); (case h2 => walk_at "mem"); (case h3 => assumption); (case h4 => assumption); (case h5 => rfl))
  | ((with_reducible refine' g_sfld ?h1 ?h2 ?h3 ?h4 ?h5 ?_); (case h1 => assumption); (case h2 => walk_at "pk"); (case h3 => assumption); (case h4 => assumption); (case h5 => decide); intro H2 hh2)
  | ((with_reducible refine' g_meth ?h1 ?h2 ?h3 ?_); (case h1 => assumption); (case h2 => walk_at "mem"); (case h3 => rfl))
  | ((with_reducible refine' g_prop ?h1 ?h2 ?_); (case h1 => assumption); (case h2 => walk_at "mem"))
  | ((with_reducible refine' g_make ?h1 ?_); (case h1 => assumption); intro x H2 hh2)
  | ((with_reducible refine' g_cat ?h1 ?h2 ?h3 ?h4 ?_); (case h1 => assumption); (case h2 => walk_at "mem"); (case h3 => walk_at "mem"); (case h4 => walk_at "sz"); intro p H2 hh2)
  | ((with_reducible refine' g_inT ?h1 ?h2 ?h3 ?h4 ?h5 ?_); (case h1 => assumption); (case h2 => walk_at "mem"); (case h3 => rfl); (case h4 => rfl); (case h5 => rfl)))
local macro_rules | `(tactic| walk_at "gs") => `(tactic| repeat first | walk_at "s1" | walk_at "g1")
local macro_rules | `(tactic| walk_at "ite") => `(tactic| first
  | ((with_reducible refine' w_iteT ?h1 ?_); (case h1 => omega))
  | ((with_reducible refine' w_iteF ?h1 ?_); (case h1 => omega))
  | (with_reducible refine w_ite ?_ ?_ <;> intro hq)
  | ((with_reducible refine' w_iteNT ?h1 ?_); (case h1 => omega))
  | ((with_reducible refine' w_iteNF ?h1 ?_); (case h1 => omega))
  | (with_reducible refine w_iteN ?_ ?_ <;> intro hq))
local macro_rules | `(tactic| walk_at "go") => `(tactic| repeat' first | walk_at "s1" | walk_at "g1" | walk_at "ite")
section
variable {P : Program} {w : World} {K : PySem.W.Frag} {mg : Str → Option Value} {base : Heap} {aREG aOPS : Addr}
/-! ### a list is copied: the new list itself -/
def sp_copyL (K : PySem.W.Frag) (m : Nat) : Sp := fun vs H Q _ => ∃ (a : Addr) (xs : List V) (ds : List PyData), vs = [.ref a] ∧ SqL K H a xs ∧ xs.length ≤ 100000 ∧ Paired (Dn K [] H m) xs ds ∧
  ∀ D acc H', H D = none → H' D = some (.lst acc) → Upt [] H H' → (∀ S, Trk S H → Paired (Dn K (D :: S) H' m) acc ds) → Q (.ref D) H'
theorem c_copyL (m : Nat) (T : Txt K mg aREG aOPS) (d : DefAt K mg "_law_copy" s__law_copy) (c__law_copy : C8.Cal P w K mg base (m + 1) "_law_copy" (sp_copy K (m + 1)) []) : C8.Cal P w K mg base (m + 2) "_law_copy" (sp_copyL K m) [] := by
  refine mk d sc__law_copy (fun _ _ _ _ _ _ us hl => match us, hl with | [_], _ => rfl) (fun vs H Q E h => ?_) (fun f cdv A outer s H vs Q E hr h => ?_)
  · obtain ⟨a, xs, ds, rfl, _⟩ := h
    rfl
  · obtain ⟨a, xs, ds, rfl, hx, hl, p, k⟩ := h
    refine ⟨_, (pss_cons (ps_if (pt_val (pe_callB call_isi (by rfl) T.b_isinstance (by decide +kernel) (pa_cons (pv 0) (pa_cons (pe_bltn (v := .ty "list") (by rfl) T.b_list (by decide +kernel) rfl) pa_nil))))
    (pss_one (ps_ret (pe_lc (own := [("x", 1)]) rfl sc__law_copy.nd (pi_list (pv 0)) (blkOk_by (own := [("x", 1)]) (N := nm__law_copy) (sc := defScope s__law_copy) (by decide +kernel)) (fun _ _ _ _ _ => (pg_name (i := 1) sc__law_copy.nd rfl (Or.inl rfl))) (fun _ _ _ _ _ => pts_nil) (fun _ _ _ _ _ => (C8.pe_c c__law_copy hr (by first | decide | omega) rfl (pa_cons (pv 1) pa_nil))))))
    pss_nil)
  (pss_cons (ps_if (pt_val (pe_callB call_isi (by rfl) T.b_isinstance (by decide +kernel) (pa_cons (pv 0) (pa_cons (pe_bltn (v := .ty "tuple") (by rfl) T.b_tuple (by decide +kernel) rfl) pa_nil))))
    (pss_one (ps_ret (pe_callTy Wk.b_tuple (by rfl) T.b_tuple (by decide +kernel) (pa_cons (pe_lc (own := [("x", 1)]) rfl sc__law_copy.nd (pi_tup (pv 0)) (blkOk_by (own := [("x", 1)]) (N := nm__law_copy) (sc := defScope s__law_copy) (by decide +kernel)) (fun _ _ _ _ _ => (pg_name (i := 1) sc__law_copy.nd rfl (Or.inl rfl))) (fun _ _ _ _ _ => pts_nil) (fun _ _ _ _ _ => (C8.pe_c c__law_copy hr (by first | decide | omega) rfl (pa_cons (pv 1) pa_nil)))) pa_nil))))
    pss_nil)
  (pss_one (ps_ret (pv 0))))), ?_⟩
    have el := p.length
    walk_at "s"
    refine lc_L hx (fun i D H2 => H D = none ∧ Upt [] H H2 ∧ ∃ acc, H2 D = some (.lst acc) ∧ acc.length = i ∧ ∀ S, Trk S H → Paired (Dn K (D :: S) H2 m) acc (ds.take i)) (fun D H1 n1 => ⟨n1.no, n1.keep, [], n1.at_, rfl, fun _ _ => .nil⟩) (fun i D H2 _ ⟨_, u, _⟩ => hx.upt u) (fun i x D H2 hi hp => ?_) (fun D H2 hp => ?_)
    · obtain ⟨hD, u, acc, hacc, hn, hp⟩ := hp
      obtain ⟨d0, hd0, z⟩ := paired_at p hi
      have hil := (List.getElem?_eq_some_iff.mp hi).1
      walk_at "s"
      refine ⟨x, d0, rfl, Dn.upt u (by simp) z, fun v' H4 u4 h4 => ?_⟩
      refine w_kapp (u4.at0 hacc) (Evl.sz_lt (by omega)) fun H5 g5 => ⟨hD, fun b o _ ho => ?_, acc ++ [v'], g5.at_, by simp [hn], fun S hS => ?_⟩
      · exact g5.keep.at1 (fun z => by subst z; rw [hD] at ho; cases ho) (u4.at0 (u.at0 ho))
      · rw [take_succ' hd0]
        have u5 : Upt [D] H4 H5 := g5.keep
        refine Paired.snoc (Paired.mapP (hp S hS) fun x y q => Dn.upt u5 (by simp) (Dn.upt u4 (by simp) q)) ?_
        refine Dn.upt u5 (by simp) (h4 (D :: S) fun b hb => ?_)
        rcases List.mem_cons.mp hb with z | z
        · subst z; exact ⟨_, hacc⟩
        · exact hS.upt u b z
    · obtain ⟨hD, u, acc, hacc, hn, hpp⟩ := hp
      refine k D acc H2 hD hacc u fun S hS => ?_
      have q := hpp S hS
      rwa [el, List.take_length] at q
theorem paired_chunk {m : Nat} {S : List Addr} {H : Hp} {xs : List V} {ds : List PyData} (p : Paired (Dn K S H m) xs ds) : ∃ Z : List Cell, Hd H Z ∧ (∀ c ∈ Z, c.1 ∉ S) ∧ ∀ H, Hd H Z → Paired (Dn K [] H m) xs ds := by
  obtain ⟨A, h1, h2⟩ := paired_addr (fun v d => Dn.addr) p
  obtain ⟨B, h3, h4⟩ := same_nodup A
  refine ⟨B.map fun a => (a, fun o => H a = some o), ⟨?_, fun c hc => ?_⟩, fun c hc => ?_, fun H' hh => h2 H' fun b hb o ho => ?_⟩
  · rw [List.map_map]
    exact (List.map_id B).symm ▸ h3
  · obtain ⟨a, ha, rfl⟩ := List.mem_map.mp hc
    obtain ⟨o, ho⟩ := (h1 a ((h4 a).mpr ha)).2
    exact ⟨o, ho, ho⟩
  · obtain ⟨a, ha, rfl⟩ := List.mem_map.mp hc
    exact (h1 a ((h4 a).mpr ha)).1
  · obtain ⟨u, e1, e2⟩ := hh.at_ _ (List.mem_map.mpr ⟨b, (h4 b).mp hb, rfl⟩)
    have e3 : H b = some u := e2
    rw [ho] at e3
    cases e3
    exact e1
theorem g_copyL {m : Nat} {a : Addr} {xs : List V} {ds : List PyData} {H : Hp} {L : List Cell} {Q : VK} {E : XK} (hh : Hd H L) (h : SqL K H a xs) (hl : xs.length ≤ 100000) (p : Paired (Dn K [] H m) xs ds)
    (q : ∀ D acc Z H', (∀ H, Hd H Z → Paired (Dn K [] H m) acc ds) → Hd H' (lstC D acc :: (Z ++ L)) → Q (.ref D) H') : sp_copyL K m [.ref a] H Q E :=
  ⟨a, xs, ds, rfl, h, hl, p, fun D acc H' n0 e u hd => by
    obtain ⟨Z, hz, hs, zz⟩ := paired_chunk (hd (L.map Prod.fst) (fun b hb => by
      obtain ⟨c, hc, rfl⟩ := List.mem_map.mp hb
      obtain ⟨o, ho, _⟩ := hh.at_ c hc
      exact ⟨o, ho⟩))
    have h1 := Hd.join hz (hh.upt0 u) fun c hc => fun z => hs c hc (List.mem_cons_of_mem _ z)
    exact q D acc Z H' zz (hd_cons1 (c := lstC D acc) h1 e rfl fun d hd z => by
      rcases List.mem_append.mp hd with hd | hd
      · exact hs d hd (by rw [show d.1 = D from z]; exact List.mem_cons_self ..)
      · obtain ⟨o, ho, _⟩ := hh.at_ d hd
        rw [show d.1 = D from z, n0] at ho
        cases ho)⟩
end
end K24
set_option Elab.async false
set_option linter.all false
set_option maxRecDepth 100000
set_option maxHeartbeats 4000000
namespace K24
open PySem PySem.Spec PyProof.Rows L2 Wk
local macro_rules | `(tactic| walk_at "u1") => `(tactic| fail "no more")
local macro_rules | `(tactic| walk_at "pos") => `(tactic| first | assumption | omega | decide | (simp only [Int.ofNat_eq_natCast] at *; omega))
local macro_rules | `(tactic| walk_at "sz") => `(tactic| first
  | (simp only [List.length_cons, List.length_nil]; decide)
  | exact Evl.sz_of (by omega)
  | exact Evl.sz_lt (by omega)
  | exact Evl.sz_of (by simp only [List.length_map, List.length_append, List.length_cons, List.length_nil, List.length_replicate]; omega)
  | exact Evl.sz_lt (by simp only [List.length_map, List.length_append, List.length_cons, List.length_nil, List.length_replicate]; omega))
local macro_rules | `(tactic| walk_at "cond") => `(tactic| first
  | exact Or.inr ⟨by decide, by decide⟩
  | (show (0 : Int) < _; first | decide | assumption | omega)
  | exact Or.inl ⟨by omega, by omega⟩
  | exact Or.inr ⟨by omega, by omega⟩
  | exact ⟨by decide, by decide, by decide⟩
  | exact log2_lt (by omega) (by omega)
  | exact ⟨by omega, by omega⟩)
local macro_rules | `(tactic| walk_at "ty") => `(tactic| first
  | exact ty_int | exact ty_bl | exact ty_str | exact ty_non
  | exact ty_L (by assumption) | exact ty_T (by assumption)
  | exact ty_L (SqL.of (by assumption)) | exact ty_T (SqT.of (by assumption)))
local macro_rules | `(tactic| walk_at "kit") => `(tactic| first
  | exact k_ii | exact k_ib | exact k_is | exact k_il | exact k_it
  | exact k_bb | exact k_bi | exact k_bs | exact k_bl | exact k_bt
  | exact k_ss | exact k_sb | exact k_si | exact k_sl | exact k_st
  | exact k_ll | exact k_lb | exact k_li | exact k_ls | exact k_lt
  | exact k_tt | exact k_tb | exact k_ti | exact k_ts | exact k_tl
  | exact k_nn | exact k_ni | exact k_ns | exact k_nl | exact k_nt)
local macro_rules | `(tactic| walk_at "s1") => `(tactic| first
  | with_reducible refine w_seq ?_
  | with_reducible refine w_set ?_
  | with_reducible refine w_op ?_
  | ((with_reducible refine' w_var ?h1 ?_); (case h1 => rfl))
  | with_reducible refine w_c ?_
  | with_reducible refine w_cb ?_
  | with_reducible refine w_cons ?_
  | with_reducible refine w_nil ?_
  | with_reducible refine w_I0 ?_
  | ((with_reducible refine' w_I ?c1 ?_); case c1 => walk_at "cond")
  | with_reducible refine w_ret ?_
  | with_reducible refine w_next ?_
  | with_reducible refine w_ifS ?_
  | with_reducible refine w_test ?_
  | with_reducible refine w_tB ?_
  | with_reducible refine w_k ?_
  | with_reducible refine w_eqI ?_
  | with_reducible refine w_neI ?_
  | with_reducible refine w_eqS ?_
  | with_reducible refine w_neS ?_
  | with_reducible refine w_and ?_
  | with_reducible refine w_or ?_
  | with_reducible refine w_not ?_
  | with_reducible refine w_andV ?_
  | with_reducible refine w_orV ?_
  | with_reducible refine w_notV ?_
  | with_reducible refine w_ifE ?_
  | with_reducible refine w_true ?_
  | with_reducible refine w_false ?_
  | with_reducible refine w_ntrue ?_
  | with_reducible refine w_nfalse ?_
  | with_reducible refine w_call ?_
  | with_reducible refine c_int ?_
  | with_reducible refine c_abs ?_
  | with_reducible refine c_max ?_
  | with_reducible refine c_min ?_
  | with_reducible refine w_drop ?_
  | with_reducible refine w_sfld ?_
  | with_reducible refine w_meth ?_
  | with_reducible refine w_make ?_
  | with_reducible refine w_prop ?_
  | with_reducible refine w_callK ?_
  | with_reducible refine w_callN ?_
  | with_reducible refine w_star ?_
  | with_reducible refine w_gcons ?_
  | with_reducible refine w_gname ?_
  | with_reducible refine w_gnil ?_
  | with_reducible refine w_retN ?_
  | with_reducible refine w_tup ?_
  | with_reducible refine w_lst ?_
  | with_reducible refine w_fld ?_
  | with_reducible refine w_bm ?_
  | with_reducible refine w_bm0 ?_
  | with_reducible refine w_forL ?_
  | with_reducible refine w_forT ?_
  | with_reducible refine w_forS ?_
  | with_reducible refine w_forR ?_
  | with_reducible refine w_lcR ?_
  | with_reducible refine w_lcL ?_
  | with_reducible refine w_lcT ?_
  | with_reducible refine w_isN ?_
  | with_reducible refine w_notN ?_
  | with_reducible refine w_asg ?_
  | with_reducible refine w_gsub ?_
  | ((with_reducible refine' w_aug ?h1 ?_); (case h1 => rfl))
  | with_reducible refine w_augS ?_
  | with_reducible refine w_ipI ?_
  | with_reducible refine w_un ?_
  | with_reducible refine w_U ?_
  | ((with_reducible refine' w_iteF ?f1 ?_); case f1 => (first | (intro h; cases h; done) | decide))
  | ((with_reducible refine' w_iteT ?f1 ?_); case f1 => rfl)
  | ((with_reducible refine' w_iteNF ?f1 ?_); case f1 => rfl)
  | ((with_reducible refine' w_iteNT ?f1 ?_); case f1 => (first | (intro h; cases h; done) | decide))
  | ((with_reducible refine' c_isi ?t1 ?k1 ?_); (case t1 => walk_at "ty"); (case k1 => walk_at "kit"))
  | ((with_reducible refine' w_eq ?e1 ?_); case e1 => rfl)
  | ((with_reducible refine' w_ne ?e1 ?_); case e1 => rfl)
  | walk_at "u1")
local macro_rules | `(tactic| walk_at "s") => `(tactic| repeat walk_at "s1")
local macro_rules | `(tactic| walk_at "mem") => `(tactic| first | with_reducible exact List.mem_cons_self .. | ((with_reducible refine' List.mem_cons_of_mem _ ?q); (case q => walk_at "mem")) | assumption | ((with_reducible refine' List.mem_append_right _ ?q); (case q => walk_at "mem")) | (exact List.mem_append_left _ (by assumption)))
local macro_rules | `(tactic| walk_at "pk") => `(tactic| first | with_reducible exact Pk.here | ((with_reducible refine' Pk.there ?q); (case q => walk_at "pk")) | ((with_reducible refine' Pk.app ?q); (case q => walk_at "pk")))
local macro_rules | `(tactic| walk_at "pkb") => `(tactic| first | with_reducible exact PkB.here | ((with_reducible refine' PkB.there ?q); (case q => walk_at "pkb")) | ((with_reducible refine' PkB.app ?q); (case q => walk_at "pkb")))
local macro_rules | `(tactic| walk_at "spl") => `(tactic| first | with_reducible exact Spl.nil | ((with_reducible refine' Spl.cons ?h ?t); (case h => walk_at "pk"); (case t => walk_at "spl")) | ((with_reducible refine' Spl.blk ?h ?t); (case h => walk_at "pkb"); (case t => walk_at "spl")))
local macro_rules | `(tactic| walk_at "sbx") => `(tactic| first | with_reducible exact Sb.refl | with_reducible exact Sb.nil | with_reducible exact Sb.left | ((with_reducible refine' Sb.cons ?h ?t); (case h => walk_at "pk"); (case t => walk_at "sbx")) | ((with_reducible refine' Sb.blk ?h ?t); (case h => walk_at "pkb"); (case t => walk_at "sbx")) | ((with_reducible refine' Sb.drop ?q); (case q => walk_at "sbx")) | ((with_reducible refine' Sb.right ?q); (case q => walk_at "sbx")))
local macro_rules | `(tactic| walk_at "hd") => `(tactic| first | assumption | exact Hd.sb (by assumption) (by walk_at "sbx"))
local macro_rules | `(tactic| walk_at "sq") => `(tactic| first
  | assumption
  | exact Hd.sqL (by assumption) (by walk_at "mem")
  | exact Hd.sqT (by assumption) (by walk_at "mem")
  | exact Hd.sqF (by assumption) (by walk_at "mem")
  | (refine .inl ?_; walk_at "sq")
  | (refine .inr ?_; walk_at "sq"))
local macro_rules | `(tactic| walk_at "at") => `(tactic| first | rfl | assumption | exact atI_nat (by assumption))
local macro_rules | `(tactic| walk_at "dn1") => `(tactic| first
  | exact Dn.int | exact Dn.str | exact Dn.non | exact Dn.bl | assumption
  | ((refine' Dn.tp ?a1 ?m1 ?l1 ?p1); (case a1 => assumption); (case m1 => walk_at "mem"); (case l1 => (simp only [List.length_cons, List.length_nil]; omega)); (case p1 => walk_at "dns"))
  | ((refine' Dn.lt ?a1 ?m1 ?l1 ?p1); (case a1 => assumption); (case m1 => walk_at "mem"); (case l1 => (simp only [List.length_cons, List.length_nil]; omega)); (case p1 => walk_at "dns")))
local macro_rules | `(tactic| walk_at "dns") => `(tactic| first | exact Paired.nil | exact Dn.ints | ((refine' Paired.cons ?a1 ?b1); (case a1 => walk_at "dn1"); (case b1 => walk_at "dns")))
local macro_rules | `(tactic| walk_at "g1") => `(tactic| first
  | ((with_reducible refine' g_ixI ?h1 ?h2 ?h3 ?_); (case h1 => assumption); (case h2 => walk_at "mem"); (case h3 => omega); intro z hz)
  | ((with_reducible refine' g_ixIT ?h1 ?h2 ?h3 ?_); (case h1 => assumption); (case h2 => walk_at "mem"); (case h3 => omega); intro z hz)
  | ((with_reducible refine' g_setI ?h1 ?h2 ?h3 ?_); (case h1 => assumption); (case h2 => walk_at "pk"); (case h3 => omega); intro H2 hh2)
  | ((with_reducible refine' w_ixL ?h1 ?h2 ?_); (case h1 => walk_at "sq"); (case h2 => walk_at "at"))
  | ((with_reducible refine' w_ixT ?h1 ?h2 ?_); (case h1 => walk_at "sq"); (case h2 => walk_at "at"))
  | ((with_reducible refine' w_ixAny ?h1 ?h2 ?_); (case h1 => walk_at "sq"); (case h2 => walk_at "at"))
  | ((with_reducible refine' c_lenA ?h1 ?_); (case h1 => walk_at "sq"))
  | ((with_reducible refine' c_isi ?t1 ?k1 ?_); (case t1 => first | exact ty_T (by walk_at "sq") | exact ty_L (by walk_at "sq")); (case k1 => walk_at "kit"))
  | ((with_reducible refine' g_lst ?h1 ?h2 ?_); (case h1 => assumption); (case h2 => walk_at "sz"); intro p H2 hh2)
  | ((with_reducible refine' g_tup ?h1 ?h2 ?_); (case h1 => assumption); (case h2 => walk_at "sz"); intro p H2 hh2)
  | ((with_reducible refine' g_dict ?h1 ?_); (case h1 => assumption); intro p H2 hh2)
  | ((with_reducible refine' g_listL ?h1 ?h2 ?_); (case h1 => assumption); (case h2 => walk_at "sq"); intro p H2 hh2)
  | ((with_reducible refine' g_listT ?h1 ?h2 ?_); (case h1 => assumption); (case h2 => walk_at "sq"); intro p H2 hh2)
  | ((with_reducible refine' g_tupL ?h1 ?h2 ?_); (case h1 => assumption); (case h2 => walk_at "sq"); intro p H2 hh2)
  | ((with_reducible refine' g_set ?h1 ?h2 ?h3 ?_); (case h1 => assumption); (case h2 => walk_at "pk"); (case h3 => first | rfl | assumption | exact Evl.ixN_nat (by first | omega | (simp only [List.length_cons, List.length_nil]; omega))); intro H2 hh2)
  | ((with_reducible refine' g_kbm ?h1 ?h2 ?_); (case h1 => assumption); (case h2 => walk_at "mem"))
  | ((with_reducible refine' g_kbm0 ?h1 ?h2 ?_); (case h1 => assumption); (case h2 => walk_at "mem"))
  | ((with_reducible refine' g_app ?h1 ?h2 ?h3 ?_); (case h1 => assumption); (case h2 => walk_at "pk"); (case h3 => walk_at "sz"); intro H2 hh2)
  | ((with_reducible refine' g_kapp ?h1 ?h2 ?h3 ?_); (case h1 => assumption); (case h2 => walk_at "pk"); (case h3 => walk_at "sz"); intro H2 hh2)
  | ((with_reducible refine' g_fld ?h1 ?h2 ?h3 ?h4 ?h5 ?_); (case h1 => assumption); (case h2 => walk_at "mem"); (case h3 => assumption); (case h4 => assumption); (case h5 => rfl))
  | ((with_reducible refine' g_sfld ?h1 ?h2 ?h3 ?h4 ?h5 ?_); (case h1 => assumption); (case h2 => walk_at "pk"); (case h3 => assumption); (case h4 => assumption); (case h5 => decide); intro H2 hh2)
  | ((with_reducible refine' g_meth ?h1 ?h2 ?h3 ?_); (case h1 => assumption); (case h2 => walk_at "mem"); (case h3 => rfl))
  | ((with_reducible refine' g_prop ?h1 ?h2 ?_); (case h1 => assumption); (case h2 => walk_at "mem"))
  | ((with_reducible refine' g_make ?h1 ?_); (case h1 => assumption); intro x H2 hh2)
  | ((with_reducible refine' g_cat ?h1 ?h2 ?h3 ?h4 ?_); (case h1 => assumption); (case h2 => walk_at "mem"); (case h3 => walk_at "mem"); (case h4 => walk_at "sz"); intro p H2 hh2)
  | ((with_reducible refine' g_inT ?h1 ?h2 ?h3 ?h4 ?h5 ?_); (case h1 => assumption); (case h2 => walk_at "mem"); (case h3 => rfl); (case h4 => rfl); (case h5 => rfl)))
local macro_rules | `(tactic| walk_at "gs") => `(tactic| repeat first | walk_at "s1" | walk_at "g1")
local macro_rules | `(tactic| walk_at "ite") => `(tactic| first
  | ((with_reducible refine' w_iteT ?h1 ?_); (case h1 => omega))
  | ((with_reducible refine' w_iteF ?h1 ?_); (case h1 => omega))
  | (with_reducible refine w_ite ?_ ?_ <;> intro hq)
  | ((with_reducible refine' w_iteNT ?h1 ?_); (case h1 => omega))
  | ((with_reducible refine' w_iteNF ?h1 ?_); (case h1 => omega))
  | (with_reducible refine w_iteN ?_ ?_ <;> intro hq))
local macro_rules | `(tactic| walk_at "go") => `(tactic| repeat' first | walk_at "s1" | walk_at "g1" | walk_at "ite")
local macro_rules | `(tactic| walk_at "g1") => `(tactic| first
  | ((with_reducible refine' g_take1 ?h1 ?h2 ?h3 ?h4 ?_); (case h1 => assumption); (case h2 => walk_at "spl"); (case h3 => omega); (case h4 => omega); intro k H2 hk1 hh2)
  | ((with_reducible refine' g_take ?h1 ?h2 ?h4 ?_); (case h1 => assumption); (case h2 => walk_at "spl"); (case h4 => omega); intro k H2 hk1 hh2)
  | ((with_reducible refine' g_betweenN ?h1 ?h2 ?h5 ?h3 ?h4 ?_); (case h1 => assumption); (case h2 => walk_at "spl"); (case h5 => omega); (case h3 => omega); (case h4 => omega); intro k H2 hk1 hk2 hh2)
  | ((with_reducible refine' g_between ?h1 ?h2 ?h3 ?h4 ?_); (case h1 => assumption); (case h2 => walk_at "spl"); (case h3 => omega); (case h4 => omega); intro k H2 hk1 hk2 hh2)
  | ((with_reducible refine' g_size ?h1 ?h2 ?h3 ?h4 ?_); (case h1 => assumption); (case h2 => walk_at "spl"); (case h3 => omega); (case h4 => omega); intro k H2 hk1 hh2)
  | ((with_reducible refine' g_word ?h1 ?h2 ?_); (case h1 => assumption); (case h2 => walk_at "spl"); intro k H2 hk1 hh2))
local macro_rules | `(tactic| walk_at "g1") => `(tactic| first | with_reducible refine w_sl ?_ | with_reducible refine w_part ?_ | with_reducible refine w_noPart ?_ | with_reducible refine w_exI ?_)
local macro_rules | `(tactic| walk_at "g1") => `(tactic| first | with_reducible refine w_din ?_ | with_reducible refine w_dnotin ?_ | with_reducible refine w_dget ?_ | with_reducible refine w_dput ?_ | with_reducible refine w_ddel ?_ | with_reducible refine w_dpop ?_)
section
variable {P : Program} {w : World} {K : PySem.W.Frag} {mg : Str → Option Value} {base : Heap} {aREG aOPS : Addr}
theorem asc_of2 {ks : List Nat} {ns : List Int} (h1 : ns.Perm (ks.map fun k : Nat => (k : Int))) (h2 : ns.Pairwise (· ≤ ·)) (nd : ks.Nodup) : ∃ rs : List Nat, ns = rs.map (fun k : Nat => (k : Int)) ∧ rs.Perm ks ∧ rs.Pairwise (· < ·) := by
  have hpos : ∀ x ∈ ns, ∃ k : Nat, x = (k : Int) := fun x hx => by
    obtain ⟨k, _, e⟩ := List.mem_map.mp (h1.mem_iff.mp hx)
    exact ⟨k, e.symm⟩
  have e : ns = (ns.map Int.toNat).map (fun k : Nat => (k : Int)) := by
    rw [List.map_map]
    refine (List.map_id ns).symm.trans (List.map_congr_left fun x hx => ?_)
    obtain ⟨k, rfl⟩ := hpos x hx
    rfl
  have hp : (ns.map Int.toNat).Perm ks := by
    have := h1.map Int.toNat
    rw [List.map_map] at this
    have e2 : List.map (Int.toNat ∘ fun k : Nat => (k : Int)) ks = ks := (List.map_congr_left fun x _ => rfl).trans (List.map_id ks)
    rw [e2] at this
    exact this
  have nd2 := hp.nodup_iff.mpr nd
  refine ⟨ns.map Int.toNat, e, hp, ?_⟩
  rw [e, List.pairwise_map] at h2
  exact (h2.and nd2).imp fun {a b} ⟨x, y⟩ => by omega
theorem g_sortedN {L : List Cell} {p : Addr} {ks : List Nat} {H : Hp} {Q : VK} (hh : Hd H L) (m : lstC p (natV ks) ∈ L) (nd : ks.Nodup) (q : ∀ l rs H2, rs.Perm ks → rs.Pairwise (· < ·) → Hd H2 (lstC l (natV rs) :: L) → Q (.ref l) H2) : rSortedI K [.ref p] H Q := by
  have e : ∀ rs : List Nat, natV rs = (rs.map fun k : Nat => (k : Int)).map V.int := fun rs => (natV_ints rs).symm
  refine ⟨p, ks.map fun k : Nat => (k : Int), rfl, by rw [← e]; exact hh.sqL m, fun ns' l h1 h2 hl => ?_⟩
  obtain ⟨rs, rfl, hp, ha⟩ := asc_of2 h1 h2 nd
  refine q l rs _ hp ha (hh.newL ?_)
  rw [e]
  exact New.of hl
section
variable {C : Addr}
def sp_law (K : PySem.W.Frag) : Sp := fun vs H Q _ => ∃ (a : Addr) (ns : List Int), vs = [.ref a] ∧ SqL K H a (ns.map V.int) ∧ ns.length ≤ 63 ∧ ∀ H', Q (.bl true) H'
theorem c_law {f : Addr} {fd : FuncData} (T : Txt K mg aREG aOPS) (L : AgC K C) (gA : ∃ u, mg "Ages" = some u ∧ RelV (.ref C) u) (d : FunT K "law" s_law f fd) (c__law_store : C8.Cal P w K mg base 1 "_law_store" (sp_store K) []) (c__law_take : C8.Cal P w K mg base 2 "_law_take" sp_take []) (c__law_size : C8.Cal P w K mg base 3 "_law_size" sp_size []) (c_Ages : C8.Mak P w K mg base 1 "Ages" C (sp_agI C) [])
    (c__law_copy : C8.Cal P w K mg base 3 "_law_copy" (sp_copyL K 1) []) (c__law_alike : C8.Cal P w K mg base 3 "_law_alike" (sp_alike K 3) []) (c__law_ages_deeds : C8.Cal P w K mg base 4 "_law_ages_deeds" (sp_deeds K) []) (c__law_logged : C8.Cal P w K mg base 6 "_law_logged" (sp_logged K C) []) (c__law_counted : C8.Cal P w K mg base 1 "_law_counted" (sp_counted K) [])
    (c__law_longest_wait : C8.Cal P w K mg base 1 "_law_longest_wait" (sp_lwait K) []) (c_longest_wait : C8.Cal P w K mg base 4 "longest_wait" (sp_pwait K) []) (ck_longest_wait : CalK P w K mg base 4 "longest_wait" (sp_pwait K) 0 ["pid", "log"] (fun vs zs => vs ++ zs.reverse)) (c_bound2 : CalS P w K mg base 4 C "bound" sp_bound []) (c_bound1 : CalS P w K mg base 4 C "bound" sp_bound [.int 8]) (ck_bound : CalSK P w K mg base 4 C "bound" sp_bound ["count", "priority"] (fun vs zs => vs ++ zs.reverse))
    (c__law_distinct : C8.Cal P w K mg base 3 "_law_distinct" (sp_distN K) []) (c__law_reaches : C8.Cal P w K mg base 7 "_law_reaches" sp_reaches []) (c__law_wrong_integer : C8.Cal P w K mg base 4 "_law_wrong_integer" (sp_wrongD K) []) (c__law_bound_refused : C8.Cal P w K mg base 5 "_law_bound_refused" (sp_bref K) []) (c__law_wait_refused : C8.Cal P w K mg base 5 "_law_wait_refused" (sp_wref K) []) : FnOk P w K mg base CX0 8 f fd ["script"] (sp_law K) := by
  refine mkF d sc_law (fun vs H Q E h => ?_) (fun fa cdv A outer s H vs Q E hr h => ?_)
  · obtain ⟨a, ns, rfl, _⟩ := h
    rfl
  · obtain ⟨a, ns, rfl, ha, hn, q⟩ := h
    refine ⟨_, (pss_cons (ps_set (i := 1) sc_law.nd rfl (Or.inl rfl) (C8.pe_c c__law_store hr (by first | decide | omega) rfl (pa_cons (pv 0) (pa_cons pe_int pa_nil))))
  (pss_cons (ps_set (i := 2) sc_law.nd rfl (Or.inr rfl) (Wk.pe_mk0 c_Ages hr (by first | decide | omega) rfl))
  (pss_cons (ps_setLc (i := 3) (own := [("call", 12)]) rfl sc_law.nd rfl rfl (sw_true rfl rfl rfl (by decide +kernel)) (pi_list (C8.pe_c c__law_ages_deeds hr (by first | decide | omega) rfl (pa_cons (pv 1) (pa_cons (C8.pe_c c__law_size hr (by first | decide | omega) rfl (pa_cons (pv 1) (pa_cons pe_int pa_nil))) (pa_cons pe_bl pa_nil))))) (blkOk_by (own := [("call", 12)]) (N := nm_law) (sc := defScope s_law) (by decide +kernel)) (fun _ _ _ _ _ => (pg_name (i := 12) sc_law.nd rfl (Or.inl rfl))) (fun _ _ _ _ _ => pts_nil) (fun _ _ _ _ _ => (C8.pe_c c__law_logged hr (by first | decide | omega) rfl (pa_cons (pv 2) (pa_cons (pv 12) pa_nil)))))
  (pss_cons (ps_set (i := 4) sc_law.nd rfl (Or.inl rfl) (C8.pe_c c__law_copy hr (by first | decide | omega) rfl (pa_cons (pv 3) pa_nil)))
  (pss_cons (ps_set (i := 5) sc_law.nd rfl (Or.inl rfl) (C8.pe_c c__law_counted hr (by first | decide | omega) rfl (pa_cons (pv 3) pa_nil)))
  (pss_cons (ps_for PassesOwn.never rfl (pi_range1 rfl T.b_range (pa_cons pe_int pa_nil)) (pg_name (i := 6) sc_law.nd rfl (Or.inl rfl))
    (pss_cons (ps_set (i := 7) sc_law.nd rfl (Or.inl rfl) (C8.pe_c c__law_longest_wait hr (by first | decide | omega) rfl (pa_cons (pv 3) (pa_cons (pv 6) pa_nil))))
      (pss_cons (ps_if (pt_not (pt_val (C8.pe_c c__law_alike hr (by first | decide | omega) rfl (pa_cons (pv 7) (pa_cons (C8.pe_c c_longest_wait hr (by first | decide | omega) rfl (pa_cons (pv 4) (pa_cons (pv 6) pa_nil))) pa_nil)))))
        (pss_one (ps_ret pe_bl))
        pss_nil)
      (pss_cons (ps_set (i := 8) sc_law.nd rfl (Or.inl rfl) (pe_ix ix_list (pe_ix ix_tup (pv 5) pe_int (fun _ _ => rfl)) (pv 6) (fun _ _ => rfl)))
      (pss_cons (ps_if (PW.pt (pw_and (pt_cmpR op_isN1 (pv 8) pe_non (nomark _)) (pw_and1 (pt_cmpR op_gt (pv 7) pe_int (nomark _)))))
        (pss_one (ps_ret pe_bl))
        pss_nil)
      (pss_one (ps_if (PW.pt (pw_and (pt_cmpR op_notN1 (pv 8) pe_non (nomark _)) (pw_and1 (PW.pt (pw_or (pt_cmpR op_gt (pv 7) (pe_op op_add (pe_op op_sub pe_int (pv 8)) (pe_ix ix_tup (pv 5) pe_int (fun _ _ => rfl))) (nomark _)) (pw_or1 (PW.pt (pw_and (pt_cmpR op_eq (pe_ix ix_tup (pv 5) pe_int (fun _ _ => rfl)) pe_int (nomark _)) (pw_and1 (pt_cmpR op_gt (pv 7) pe_int (nomark _)))))))))))
        (pss_one (ps_ret pe_bl))
        pss_nil)))))))
  (pss_cons (ps_if (pt_not (pt_val (C8.pe_c c__law_alike hr (by first | decide | omega) rfl (pa_cons (pv 3) (pa_cons (pv 4) pa_nil)))))
    (pss_one (ps_ret pe_bl))
    pss_nil)
  (pss_cons (ps_expr (pe_bm0 PySem.F.plainAttrs_list PySem.F.slot_list_clear PySem.F.type_list_clear mt_clear (pv 4)))
  (pss_cons (ps_if (pt_not (pt_val (C8.pe_c c__law_alike hr (by first | decide | omega) rfl (pa_cons pe_int (pa_cons (Wk.pe_ck ck_longest_wait hr (by first | decide | omega) rfl (pk_cons (C8.pe_c c__law_take hr (by first | decide | omega) rfl (pa_cons (pv 1) (pa_cons pe_int pa_nil))) (pk_cons (pv 4) pk_nil))) pa_nil)))))
    (pss_one (ps_ret pe_bl))
    pss_nil)
  (pss_cons (ps_set (i := 8) sc_law.nd rfl (Or.inl rfl) (C8.pe_c c__law_take hr (by first | decide | omega) rfl (pa_cons (pv 1) (pa_cons pe_int pa_nil))))
  (pss_cons (ps_set (i := 9) sc_law.nd rfl (Or.inl rfl) (pe_op op_add pe_int (C8.pe_c c__law_take hr (by first | decide | omega) rfl (pa_cons (pv 1) (pa_cons pe_int pa_nil)))))
  (pss_cons (ps_set (i := 10) sc_law.nd rfl (Or.inl rfl) (pe_lst (pa_cons (Wk.pe_st c_bound2 hr (by first | decide | omega) (C8.pe_gc rfl gA) (pa_cons (pv 8) (pa_cons (pv 9) pa_nil))) (pa_cons (Wk.pe_stK ck_bound hr (by first | decide | omega) (C8.pe_gc rfl gA) (pk_cons (pv 9) (pk_cons (pv 8) pk_nil))) (pa_cons (Wk.pe_st c_bound1 hr (by first | decide | omega) (C8.pe_gc rfl gA) (pa_cons (pv 8) pa_nil)) pa_nil)))))
  (pss_cons (ps_if (pt_not (pt_val (C8.pe_c c__law_alike hr (by first | decide | omega) rfl (pa_cons (pe_lst (pa_cons (pe_op op_add (pe_op op_sub pe_int (pv 8)) (pv 9)) (pa_cons (pe_op op_add (pe_op op_sub pe_int (pv 8)) (pv 9)) (pa_cons (pe_op op_sub pe_int (pv 8)) pa_nil)))) (pa_cons (pv 10) pa_nil)))))
    (pss_one (ps_ret pe_bl))
    pss_nil)
  (pss_cons (ps_if (pt_not (pt_val (C8.pe_c c__law_reaches hr (by first | decide | omega) rfl (pa_cons (pe_callB cr_sortedI (by rfl) T.b_sorted (by decide +kernel) (pa_cons (C8.pe_c c__law_distinct hr (by first | decide | omega) rfl (pa_cons (pv 1) (pa_cons pe_int (pa_cons (pe_op op_add pe_int (C8.pe_c c__law_take hr (by first | decide | omega) rfl (pa_cons (pv 1) (pa_cons pe_int pa_nil)))) pa_nil)))) pa_nil)) (pa_cons (pv 8) pa_nil)))))
    (pss_one (ps_ret pe_bl))
    pss_nil)
  (pss_cons (ps_if (pt_not (pt_val (C8.pe_c c__law_reaches hr (by first | decide | omega) rfl (pa_cons (pe_lst (pa_cons pe_int (pa_cons pe_int pa_nil))) (pa_cons pe_int pa_nil)))))
    (pss_one (ps_ret pe_bl))
    pss_nil)
  (pss_cons (ps_set (i := 11) sc_law.nd rfl (Or.inl rfl) (pe_lst (pa_cons (C8.pe_c c__law_wrong_integer hr (by first | decide | omega) rfl (pa_cons (pv 1) (pa_cons pe_int (pa_cons pe_int pa_nil)))) (pa_cons (C8.pe_c c__law_wrong_integer hr (by first | decide | omega) rfl (pa_cons (pv 1) (pa_cons pe_int (pa_cons pe_int pa_nil)))) pa_nil))))
  (pss_cons (ps_if (pt_not (pt_val (C8.pe_c c__law_alike hr (by first | decide | omega) rfl (pa_cons (pe_tup (pa_cons pe_str (pa_cons pe_str pa_nil))) (pa_cons (C8.pe_c c__law_bound_refused hr (by first | decide | omega) rfl (pa_cons (pe_ix ix_list (pv 11) pe_int (fun _ _ => rfl)) (pa_cons (pe_ix ix_list (pv 11) pe_int (fun _ _ => rfl)) pa_nil))) pa_nil)))))
    (pss_one (ps_ret pe_bl))
    pss_nil)
  (pss_cons (ps_if (pt_not (pt_val (C8.pe_c c__law_alike hr (by first | decide | omega) rfl (pa_cons (pe_tup (pa_cons pe_str (pa_cons pe_str pa_nil))) (pa_cons (C8.pe_c c__law_bound_refused hr (by first | decide | omega) rfl (pa_cons (pv 8) (pa_cons (pe_ix ix_list (pv 11) pe_int (fun _ _ => rfl)) pa_nil))) pa_nil)))))
    (pss_one (ps_ret pe_bl))
    pss_nil)
  (pss_one (ps_ret (C8.pe_c c__law_alike hr (by first | decide | omega) rfl (pa_cons (pe_tup (pa_cons pe_str (pa_cons pe_str pa_nil))) (pa_cons (C8.pe_c c__law_wait_refused hr (by first | decide | omega) rfl (pa_cons (pv 3) (pa_cons (pe_ix ix_list (pv 11) pe_int (fun _ _ => rfl)) pa_nil))) pa_nil))))))))))))))))))))))), ?_⟩
    have hh : Hd H [] := ⟨List.nodup_nil, fun c hc => by cases hc⟩
    walk_at "gs"
    refine g_store hh ha hn (by omega) (by omega) fun st c H1 h1 => ?_
    clear hh
    walk_at "gs"
    rename_i o H2 h2
    refine ⟨o, _, rfl, h2, fun Z0 H3 b0 h3 => ⟨rfl, ?_⟩⟩
    clear h1 h2
    have b0' := b0
    obtain ⟨e0, W0, tb0, rfl⟩ := b0'
    have h3 : Hd H3 (agI o C e0 :: (W0 ++ [stoC st c, scrC c])) := h3
    walk_at "gs"
    rename_i nd H4 hnd h4
    refine ⟨st, c, nd, agI o C e0 :: (W0 ++ []), rfl, by omega, Hd.sb h4 (by walk_at "sbx"), fun p l H5 hll hokl hawl h5 => ?_⟩
    clear h3 h4
    dsimp only
    refine g_lcL h5 (h5.sqL (by walk_at "mem")) (fun i D H => ∃ (rs : List LRow) (S : AgS) (Z : List Cell) (xs : List V) (Y : List Cell), LogOf rs S ∧ rs.length = i ∧ domS S = domL noM ((deedsD l).take i) ∧ AgB C o S Z ∧ xs.length = i ∧ LogIn K rs xs (Y ++ cellsD l) ∧ Hd H (lstC D xs :: (Z ++ (Y ++ (lstC p (refsD l) :: (cellsD l ++ (stoC st c :: scrC c :: [])))))))
      (fun D H hD => ⟨[], _, agI o C e0 :: W0, [], [], .nil, rfl, rfl, b0, rfl, fun H _ => .nil, Hd.sb (A := lstC D [] :: agI o C e0 :: (W0 ++ (lstC p (refsD l) :: (cellsD l ++ (stoC st c :: scrC c :: []))))) hD (by walk_at "sbx")⟩) (fun i D H _ ⟨rs, S, Z, xs, Y, _, _, _, _, _, _, h⟩ => h.sqL (by walk_at "mem")) ?_ ?_
    · rintro i x D H6 hx ⟨rs, S, Z, xs, Y, hL, hrl, hdm, hb, hxl, hY, h6⟩
      have hi : i < l.length := by rw [← List.length_map (as := l) (fun x => V.ref x.1)]; exact (List.getElem?_eq_some_iff.mp hx).1
      have hli := List.getElem?_eq_getElem hi
      rw [List.getElem?_map, hli] at hx
      have hx : x = .ref l[i].1 := (Option.some.inj hx).symm
      subst hx
      have hdi : (deedsD l)[i]? = some l[i].2 := by rw [List.getElem?_map, hli]; rfl
      have hmem : tupC l[i].1 (dV l[i].2) ∈ cellsD l := List.mem_map.mpr ⟨l[i], List.getElem_mem hi, rfl⟩
      have hok : ok1 (domS S) l[i].2 := by rw [hdm]; exact okL_at _ _ i _ hokl hdi
      have haw := hawl _ (List.mem_of_getElem? hdi)
      clear h5
      walk_at "gs"
      refine ⟨o, _, _, S, Z, Y ++ (lstC D xs :: lstC p (refsD l) :: (cellsD l ++ (stoC st c :: scrC c :: []))), rfl, List.mem_append_right _ (List.mem_cons_of_mem _ (List.mem_cons_of_mem _ (List.mem_append_left _ hmem))), hb, hok, haw, Hd.sb h6 (by walk_at "sbx"), fun w S' Z' x' Y' H7 ho hb' hx' h7 => ?_⟩
      have hxl2 : xs.length < 1000 := by omega
      walk_at "gs"
      rename_i H8 h8
      refine ⟨_, S', Z', xs ++ [x'], Y ++ Y', .snoc hL hok haw ho, by rw [List.length_append, hrl]; rfl, ?_, hb', by rw [List.length_append, hxl]; rfl, fun H hh => ?_, (by rw [List.append_assoc]; exact Hd.sb h8 (by walk_at "sbx"))⟩
      · rw [tk_succ hdi, domL_snoc, ← hdm]
        exact funext fun j => ho.dom hok j
      · rw [List.map_append]
        rw [List.append_assoc] at hh
        exact Paired.snoc (hY H (Hd.sb hh (by walk_at "sbx"))) (hx' H (hd_one hmem hh))
    · rintro D H6 ⟨rs, S, Z, xs, Y, hL, hrl, _, _, hxl, hY, h6⟩
      rw [List.length_map] at hrl hxl
      have h7 : Hd H6 (lstC D xs :: ((Y ++ cellsD l) ++ (stoC st c :: scrC c :: []))) := by rw [List.append_assoc]; exact Hd.sb h6 (by walk_at "sbx")
      generalize Y ++ cellsD l = Y at hY h7
      clear h5 h6
      walk_at "gs"
      refine g_copyL (m := 1) h7 (h7.sqL (by walk_at "mem")) (by omega) (hY H6 (Hd.sb h7 (by walk_at "sbx"))) fun D2 xs2 Y2 H8 hY2 h8 => ?_
      have hY2 : LogIn K rs xs2 Y2 := hY2
      have hxl2 : xs2.length = rs.length := hY2.len (Hd.sb h8 (by walk_at "sbx"))
      clear h7
      walk_at "gs"
      refine ⟨D, rs, S, xs, Y, lstC D2 xs2 :: (Y2 ++ (stoC st c :: scrC c :: [])), rfl, by omega, hL, hY, Hd.sb h8 (by walk_at "sbx"), fun t pl H9 h9 => ?_⟩
      clear h8
      walk_at "gs"
      obtain ⟨_, _, h1m, _, _, hbd⟩ := bounds hL
      generalize hmo : (cAll rs).most = mo at h9 h1m hbd
      generalize hle : (cAll rs).least = le at h9 hbd
      have h10 : Hd H9 (tupC t [V.int (mo : Int), .ref pl] :: lstC pl (leastV le) :: lstC D xs :: (Y ++ (lstC D2 xs2 :: (Y2 ++ (stoC st c :: scrC c :: []))))) := h9
      clear h9
      refine l_range (m := 8) rfl (by omega) (fun i σ H => (∃ v6 v7 v8 v9 v10 v11 v12 : Option V, σ = [some (.ref a), some (.ref st), some (.ref o), some (.ref D), some (.ref D2), some (.ref t), v6, v7, v8, v9, v10, v11, v12]) ∧ Hd H (tupC t [V.int (mo : Int), .ref pl] :: lstC pl (leastV le) :: lstC D xs :: (Y ++ (lstC D2 xs2 :: (Y2 ++ (stoC st c :: scrC c :: [])))))) ⟨⟨_, _, _, _, _, _, _, rfl⟩, h10⟩ ?_ ?_
      · rintro i σ H1 hi ⟨⟨v6, v7, v8, v9, v10, v11, v12, rfl⟩, h1⟩
        clear h10
        obtain ⟨b, _, w1, w2⟩ := walks hL i
        obtain ⟨b0, bl, b1⟩ := hbd i
        rw [w1] at b0 bl b1
        have b0 : le i = none → b = 0 := b0
        have bl : ∀ l, le i = some l → b + l ≤ 6 + mo := bl
        have b1 : mo = 1 → b = 0 := b1
        walk_at "gs"
        refine ⟨D, i, rs, xs, Y, tupC t [V.int (mo : Int), .ref pl] :: lstC pl (leastV le) :: (lstC D2 xs2 :: (Y2 ++ (stoC st c :: scrC c :: []))), rfl, hi, by omega, hY, Hd.sb h1 (by walk_at "sbx"), fun H2 h2 => ?_⟩
        rw [show (lwAll i rs).2.2 = b by rw [w1]]
        clear h1
        walk_at "gs"
        refine ⟨D2, i, rs, xs2, Y2, tupC t [V.int (mo : Int), .ref pl] :: lstC pl (leastV le) :: (lstC D xs :: (Y ++ (stoC st c :: scrC c :: []))), rfl, hi, by omega, hY2, Hd.sb h2 (by walk_at "sbx"), fun H3 h3 => ?_⟩
        rw [show (pwAll i rs).1 = b by rw [w2]]
        clear h2
        walk_at "gs"
        refine g_alike (n := 2) (d := .int (b : Int)) (Dn.sc (.int _)) (Dn.sc (.int _)) ?_
        refine ⟨true, rfl, ?_⟩
        have hlk := least_at (f := le) hi
        cases hl0 : le i with
        | none =>
          rw [hl0] at hlk
          have hlk : (leastV le)[i]? = some V.non := hlk
          have hb0 := b0 hl0
          subst hb0
          walk_at "gs"
          exact ⟨⟨_, _, _, _, _, _, _, rfl⟩, Hd.sb h3 (by walk_at "sbx")⟩
        | some lo =>
          rw [hl0] at hlk
          have hlk : (leastV le)[i]? = some (V.int (lo : Int)) := hlk
          have hbl := bl lo hl0
          walk_at "gs"
          rw [decide_eq_false (show ¬ (6 - (lo : Int) + (mo : Int) < (b : Int)) by omega)]
          walk_at "gs"
          refine w_ite (fun e => ?_) (fun e => ?_)
          · have hb0 := b1 (by omega)
            subst hb0
            walk_at "gs"
            exact ⟨⟨_, _, _, _, _, _, _, rfl⟩, Hd.sb h3 (by walk_at "sbx")⟩
          · walk_at "gs"
            exact ⟨⟨_, _, _, _, _, _, _, rfl⟩, Hd.sb h3 (by walk_at "sbx")⟩
      · rintro σ H1 ⟨⟨v6, v7, v8, v9, v10, v11, v12, rfl⟩, h1⟩
        clear h10
        walk_at "gs"
        refine g_alike (n := 2) (Dn.lt (n := 1) h1 (by walk_at "mem") (by omega) (hY H1 (Hd.sb h1 (by walk_at "sbx")))) (Dn.lt (n := 1) h1 (by walk_at "mem") (by omega) (hY2 H1 (Hd.sb h1 (by walk_at "sbx")))) ?_
        refine ⟨true, rfl, ?_⟩
        walk_at "gs"
        refine g_clear h1 (by walk_at "pk") fun H2 h2 => ?_
        clear h1
        walk_at "gs"
        rename_i kp H3 hkp h3
        refine ⟨rfl, D2, kp, [], [], [], stoC st c :: scrC c :: [], rfl, by omega, (by decide), fun H _ => .nil, (show Hd H3 (lstC D2 [] :: stoC st c :: scrC c :: []) from Hd.sb h3 (by walk_at "sbx")), fun H4 h4 => ?_⟩
        have h4 : Hd H4 (lstC D2 [] :: stoC st c :: scrC c :: []) := h4
        rw [show (pwAll kp []).1 = 0 from rfl]
        clear h2 h3
        walk_at "gs"
        refine g_alike (n := 2) (d := .int 0) (Dn.sc (.int _)) (Dn.sc (.int _)) ?_
        refine ⟨true, rfl, ?_⟩
        walk_at "gs"
        rename_i low H5 hlow h5 km H6 hkm h6
        clear h4 h5
        refine w_st ?_
        walk_at "gs"
        refine ⟨low, 1 + km, rfl, by omega, by omega, by omega, ?_⟩
        walk_at "gs"
        refine w_stK ?_
        walk_at "gs"
        refine ⟨rfl, low, 1 + km, rfl, by omega, by omega, by omega, ?_⟩
        walk_at "gs"
        refine w_st ?_
        walk_at "gs"
        refine ⟨low, 8, rfl, by omega, by omega, by omega, ?_⟩
        walk_at "gs"
        rename_i p1 H7 h7 p2 H8 h8
        clear h6 h7
        have l1 : ∀ {x y z : Int} {p : Addr} {L : List Cell} {H : Hp}, Hd H L → lstC p [.int x, .int y, .int z] ∈ L → Dn K [] H 2 (.ref p) (.list [.int x, .int y, .int z]) := fun hh m => Dn.lt (n := 1) hh m (by simp) (.cons (Dn.sc (.int _)) (.cons (Dn.sc (.int _)) (.cons (Dn.sc (.int _)) .nil)))
        refine g_alike (n := 2) (l1 h8 (by walk_at "mem")) (by
          have e1 : 6 - (low : Int) + ((1 + km : Nat) : Int) = 6 - (low : Int) + (1 + (km : Int)) := by push_cast; rfl
          have e2 : 6 - (low : Int) + ((8 : Nat) : Int) = 14 - (low : Int) := by omega
          rw [e1, e2] at h8
          exact l1 h8 (by walk_at "mem")) ?_
        refine ⟨true, rfl, ?_⟩
        walk_at "gs"
        rename_i k7 H9 hk7 h9
        refine ⟨st, c, 2 + k7, [], rfl, by omega, by omega, Hd.sb h9 (by walk_at "sbx"), fun pd ks H10 hkl hknd hk8 h10 => ?_⟩
        clear h8 h9
        walk_at "gs"
        refine g_sortedN h10 (by walk_at "mem") hknd fun ps rs H11 hperm hpw h11 => ?_
        walk_at "gs"
        refine ⟨ps, rs, low, lstC pd (natV ks) :: stoC st c :: scrC c :: [], rfl, by omega, (by rw [hperm.length_eq]; omega), (by rw [hperm.length_eq]; omega), hpw, fun k hk => hk8 k (hperm.mem_iff.mp hk), h11, fun H12 h12 => ?_⟩
        refine ⟨true, rfl, ?_⟩
        clear h10 h11
        walk_at "gs"
        rename_i p01 H13 h13
        refine ⟨p01, [0, 1], 5, stoC st c :: scrC c :: [], rfl, by omega, by decide, by decide, by decide, by decide, (show Hd H13 (lstC p01 [V.int 0, V.int 1] :: stoC st c :: scrC c :: []) from Hd.sb h13 (by walk_at "sbx")), fun H14 h14 => ?_⟩
        have h14 : Hd H14 (lstC p01 [V.int 0, V.int 1] :: stoC st c :: scrC c :: []) := h14
        refine ⟨true, rfl, ?_⟩
        clear h12 h13
        walk_at "gs"
        refine g_wrongD h14 (by walk_at "spl") (by omega) (by omega) (by omega) fun v1 Z1 H15 hv1 h15 => ?_
        walk_at "gs"
        refine g_wrongD h15 (by walk_at "spl") (by omega) (by omega) (by omega) fun v2 Z2 H16 hv2 h16 => ?_
        obtain ⟨r1, d1, z1⟩ := hv1
        obtain ⟨r2, d2, z2⟩ := hv2
        clear h14 h15
        have tpd : ∀ {z : Str} {p : Addr} {L : List Cell} {H : Hp}, Hd H L → tupC p [.str (Str.ofString "BadArgument"), .str z] ∈ L → Dn K [] H 2 (.ref p) (.tuple [.str "BadArgument", .str z]) := fun hh m => Dn.tp (n := 1) hh m (by simp) (.cons (Dn.sc (.str _)) (.cons (Dn.sc (.str _)) .nil))
        walk_at "gs"
        rename_i pw H17 h17 pe H18 h18
        clear h16 h17
        obtain ⟨t1, kh1⟩ := dn_kh (z1 H18 (Hd.sb h18 (by walk_at "sbx")))
        refine ⟨v1, v2, "priority", _, rfl, .inl ⟨t1, kh1, r1, rfl⟩, h18, fun t3 H19 h19 => ?_⟩
        walk_at "gs"
        refine g_alike (n := 2) (tpd h19 (by walk_at "mem")) (tpd h19 (by walk_at "mem")) ?_
        refine ⟨true, rfl, ?_⟩
        clear h18
        walk_at "gs"
        rename_i pe2 H20 h20
        obtain ⟨t2, kh2⟩ := dn_kh (z2 H20 (Hd.sb h20 (by walk_at "sbx")))
        refine ⟨.int low, v2, "count", _, rfl, .inr ⟨low, t2, rfl, by omega, kh2, r2, rfl⟩, h20, fun t4 H21 h21 => ?_⟩
        walk_at "gs"
        refine g_alike (n := 2) (tpd h21 (by walk_at "mem")) (tpd h21 (by walk_at "mem")) ?_
        refine ⟨true, rfl, ?_⟩
        clear h19 h20
        walk_at "gs"
        rename_i pe3 H22 h22
        obtain ⟨t5, kh5⟩ := dn_kh (z1 H22 (Hd.sb h22 (by walk_at "sbx")))
        refine ⟨.ref D, v1, t5, _, rfl, kh5, r1, h22, fun t6 H23 h23 => ?_⟩
        walk_at "gs"
        refine g_alike (n := 2) (tpd h23 (by walk_at "mem")) (tpd h23 (by walk_at "mem")) ?_
        exact q _
end
end
end K24
set_option Elab.async false
set_option linter.all false
set_option maxRecDepth 100000
set_option maxHeartbeats 4000000
namespace K24
open PySem PySem.Spec PyProof.Rows L2 Wk
local macro_rules | `(tactic| walk_at "u1") => `(tactic| fail "no more")
local macro_rules | `(tactic| walk_at "pos") => `(tactic| first | assumption | omega | decide | (simp only [Int.ofNat_eq_natCast] at *; omega))
local macro_rules | `(tactic| walk_at "sz") => `(tactic| first
  | (simp only [List.length_cons, List.length_nil]; decide)
  | exact Evl.sz_of (by omega)
  | exact Evl.sz_lt (by omega)
  | exact Evl.sz_of (by simp only [List.length_map, List.length_append, List.length_cons, List.length_nil, List.length_replicate]; omega)
  | exact Evl.sz_lt (by simp only [List.length_map, List.length_append, List.length_cons, List.length_nil, List.length_replicate]; omega))
local macro_rules | `(tactic| walk_at "cond") => `(tactic| first
  | exact Or.inr ⟨by decide, by decide⟩
  | (show (0 : Int) < _; first | decide | assumption | omega)
  | exact Or.inl ⟨by omega, by omega⟩
  | exact Or.inr ⟨by omega, by omega⟩
  | exact ⟨by decide, by decide, by decide⟩
  | exact log2_lt (by omega) (by omega)
  | exact ⟨by omega, by omega⟩)
local macro_rules | `(tactic| walk_at "ty") => `(tactic| first
  | exact ty_int | exact ty_bl | exact ty_str | exact ty_non
  | exact ty_L (by assumption) | exact ty_T (by assumption)
  | exact ty_L (SqL.of (by assumption)) | exact ty_T (SqT.of (by assumption)))
local macro_rules | `(tactic| walk_at "kit") => `(tactic| first
  | exact k_ii | exact k_ib | exact k_is | exact k_il | exact k_it
  | exact k_bb | exact k_bi | exact k_bs | exact k_bl | exact k_bt
  | exact k_ss | exact k_sb | exact k_si | exact k_sl | exact k_st
  | exact k_ll | exact k_lb | exact k_li | exact k_ls | exact k_lt
  | exact k_tt | exact k_tb | exact k_ti | exact k_ts | exact k_tl
  | exact k_nn | exact k_ni | exact k_ns | exact k_nl | exact k_nt)
local macro_rules | `(tactic| walk_at "s1") => `(tactic| first
  | with_reducible refine w_seq ?_
  | with_reducible refine w_set ?_
  | with_reducible refine w_op ?_
  | ((with_reducible refine' w_var ?h1 ?_); (case h1 => rfl))
  | with_reducible refine w_c ?_
  | with_reducible refine w_cb ?_
  | with_reducible refine w_cons ?_
  | with_reducible refine w_nil ?_
  | with_reducible refine w_I0 ?_
  | ((with_reducible refine' w_I ?c1 ?_); case c1 => walk_at "cond")
  | with_reducible refine w_ret ?_
  | with_reducible refine w_next ?_
  | with_reducible refine w_ifS ?_
  | with_reducible refine w_test ?_
  | with_reducible refine w_tB ?_
  | with_reducible refine w_k ?_
  | with_reducible refine w_eqI ?_
  | with_reducible refine w_neI ?_
  | with_reducible refine w_eqS ?_
  | with_reducible refine w_neS ?_
  | with_reducible refine w_and ?_
  | with_reducible refine w_or ?_
  | with_reducible refine w_not ?_
  | with_reducible refine w_andV ?_
  | with_reducible refine w_orV ?_
  | with_reducible refine w_notV ?_
  | with_reducible refine w_ifE ?_
  | with_reducible refine w_true ?_
  | with_reducible refine w_false ?_
  | with_reducible refine w_ntrue ?_
  | with_reducible refine w_nfalse ?_
  | with_reducible refine w_call ?_
  | with_reducible refine c_int ?_
  | with_reducible refine c_abs ?_
  | with_reducible refine c_max ?_
  | with_reducible refine c_min ?_
  | with_reducible refine w_drop ?_
  | with_reducible refine w_sfld ?_
  | with_reducible refine w_meth ?_
  | with_reducible refine w_make ?_
  | with_reducible refine w_prop ?_
  | with_reducible refine w_callK ?_
  | with_reducible refine w_callN ?_
  | with_reducible refine w_star ?_
  | with_reducible refine w_gcons ?_
  | with_reducible refine w_gname ?_
  | with_reducible refine w_gnil ?_
  | with_reducible refine w_retN ?_
  | with_reducible refine w_tup ?_
  | with_reducible refine w_lst ?_
  | with_reducible refine w_fld ?_
  | with_reducible refine w_bm ?_
  | with_reducible refine w_bm0 ?_
  | with_reducible refine w_forL ?_
  | with_reducible refine w_forT ?_
  | with_reducible refine w_forS ?_
  | with_reducible refine w_forR ?_
  | with_reducible refine w_lcR ?_
  | with_reducible refine w_lcL ?_
  | with_reducible refine w_lcT ?_
  | with_reducible refine w_isN ?_
  | with_reducible refine w_notN ?_
  | with_reducible refine w_asg ?_
  | with_reducible refine w_gsub ?_
  | ((with_reducible refine' w_aug ?h1 ?_); (case h1 => rfl))
  | with_reducible refine w_augS ?_
  | with_reducible refine w_ipI ?_
  | with_reducible refine w_un ?_
  | with_reducible refine w_U ?_
  | ((with_reducible refine' w_iteF ?f1 ?_); case f1 => (first | (intro h; cases h; done) | decide))
  | ((with_reducible refine' w_iteT ?f1 ?_); case f1 => rfl)
  | ((with_reducible refine' w_iteNF ?f1 ?_); case f1 => rfl)
  | ((with_reducible refine' w_iteNT ?f1 ?_); case f1 => (first | (intro h; cases h; done) | decide))
  | ((with_reducible refine' c_isi ?t1 ?k1 ?_); (case t1 => walk_at "ty"); (case k1 => walk_at "kit"))
  | ((with_reducible refine' w_eq ?e1 ?_); case e1 => rfl)
  | ((with_reducible refine' w_ne ?e1 ?_); case e1 => rfl)
  | walk_at "u1")
local macro_rules | `(tactic| walk_at "s") => `(tactic| repeat walk_at "s1")
local macro_rules | `(tactic| walk_at "mem") => `(tactic| first | with_reducible exact List.mem_cons_self .. | ((with_reducible refine' List.mem_cons_of_mem _ ?q); (case q => walk_at "mem")) | assumption | ((with_reducible refine' List.mem_append_right _ ?q); (case q => walk_at "mem")) | (exact List.mem_append_left _ (by assumption)))
local macro_rules | `(tactic| walk_at "pk") => `(tactic| first | with_reducible exact Pk.here | ((with_reducible refine' Pk.there ?q); (case q => walk_at "pk")) | ((with_reducible refine' Pk.app ?q); (case q => walk_at "pk")))
local macro_rules | `(tactic| walk_at "pkb") => `(tactic| first | with_reducible exact PkB.here | ((with_reducible refine' PkB.there ?q); (case q => walk_at "pkb")) | ((with_reducible refine' PkB.app ?q); (case q => walk_at "pkb")))
local macro_rules | `(tactic| walk_at "spl") => `(tactic| first | with_reducible exact Spl.nil | ((with_reducible refine' Spl.cons ?h ?t); (case h => walk_at "pk"); (case t => walk_at "spl")) | ((with_reducible refine' Spl.blk ?h ?t); (case h => walk_at "pkb"); (case t => walk_at "spl")))
local macro_rules | `(tactic| walk_at "sbx") => `(tactic| first | with_reducible exact Sb.refl | with_reducible exact Sb.nil | with_reducible exact Sb.left | ((with_reducible refine' Sb.cons ?h ?t); (case h => walk_at "pk"); (case t => walk_at "sbx")) | ((with_reducible refine' Sb.blk ?h ?t); (case h => walk_at "pkb"); (case t => walk_at "sbx")) | ((with_reducible refine' Sb.drop ?q); (case q => walk_at "sbx")) | ((with_reducible refine' Sb.right ?q); (case q => walk_at "sbx")))
local macro_rules | `(tactic| walk_at "hd") => `(tactic| first | assumption | exact Hd.sb (by assumption) (by walk_at "sbx"))
local macro_rules | `(tactic| walk_at "sq") => `(tactic| first
  | assumption
  | exact Hd.sqL (by assumption) (by walk_at "mem")
  | exact Hd.sqT (by assumption) (by walk_at "mem")
  | exact Hd.sqF (by assumption) (by walk_at "mem")
  | (refine .inl ?_; walk_at "sq")
  | (refine .inr ?_; walk_at "sq"))
local macro_rules | `(tactic| walk_at "at") => `(tactic| first | rfl | assumption | exact atI_nat (by assumption))
local macro_rules | `(tactic| walk_at "dn1") => `(tactic| first
  | exact Dn.int | exact Dn.str | exact Dn.non | exact Dn.bl | assumption
  | ((refine' Dn.tp ?a1 ?m1 ?l1 ?p1); (case a1 => assumption); (case m1 => walk_at "mem"); (case l1 => (simp only [List.length_cons, List.length_nil]; omega)); (case p1 => walk_at "dns"))
  | ((refine' Dn.lt ?a1 ?m1 ?l1 ?p1); (case a1 => assumption); (case m1 => walk_at "mem"); (case l1 => (simp only [List.length_cons, List.length_nil]; omega)); (case p1 => walk_at "dns")))
local macro_rules | `(tactic| walk_at "dns") => `(tactic| first | exact Paired.nil | exact Dn.ints | ((refine' Paired.cons ?a1 ?b1); (case a1 => walk_at "dn1"); (case b1 => walk_at "dns")))
local macro_rules | `(tactic| walk_at "g1") => `(tactic| first
  | ((with_reducible refine' g_ixI ?h1 ?h2 ?h3 ?_); (case h1 => assumption); (case h2 => walk_at "mem"); (case h3 => omega); intro z hz)
  | ((with_reducible refine' g_ixIT ?h1 ?h2 ?h3 ?_); (case h1 => assumption); (case h2 => walk_at "mem"); (case h3 => omega); intro z hz)
  | ((with_reducible refine' g_setI ?h1 ?h2 ?h3 ?_); (case h1 => assumption); (case h2 => walk_at "pk"); (case h3 => omega); intro H2 hh2)
  | ((with_reducible refine' w_ixL ?h1 ?h2 ?_); (case h1 => walk_at "sq"); (case h2 => walk_at "at"))
  | ((with_reducible refine' w_ixT ?h1 ?h2 ?_); (case h1 => walk_at "sq"); (case h2 => walk_at "at"))
  | ((with_reducible refine' w_ixAny ?h1 ?h2 ?_); (case h1 => walk_at "sq"); (case h2 => walk_at "at"))
  | ((with_reducible refine' c_lenA ?h1 ?_); (case h1 => walk_at "sq"))
  | ((with_reducible refine' c_isi ?t1 ?k1 ?_); (case t1 => first | exact ty_T (by walk_at "sq") | exact ty_L (by walk_at "sq")); (case k1 => walk_at "kit"))
  | ((with_reducible refine' g_lst ?h1 ?h2 ?_); (case h1 => assumption); (case h2 => walk_at "sz"); intro p H2 hh2)
  | ((with_reducible refine' g_tup ?h1 ?h2 ?_); (case h1 => assumption); (case h2 => walk_at "sz"); intro p H2 hh2)
  | ((with_reducible refine' g_dict ?h1 ?_); (case h1 => assumption); intro p H2 hh2)
  | ((with_reducible refine' g_listL ?h1 ?h2 ?_); (case h1 => assumption); (case h2 => walk_at "sq"); intro p H2 hh2)
  | ((with_reducible refine' g_listT ?h1 ?h2 ?_); (case h1 => assumption); (case h2 => walk_at "sq"); intro p H2 hh2)
  | ((with_reducible refine' g_tupL ?h1 ?h2 ?_); (case h1 => assumption); (case h2 => walk_at "sq"); intro p H2 hh2)
  | ((with_reducible refine' g_set ?h1 ?h2 ?h3 ?_); (case h1 => assumption); (case h2 => walk_at "pk"); (case h3 => first | rfl | assumption | exact Evl.ixN_nat (by first | omega | (simp only [List.length_cons, List.length_nil]; omega))); intro H2 hh2)
  | ((with_reducible refine' g_kbm ?h1 ?h2 ?_); (case h1 => assumption); (case h2 => walk_at "mem"))
  | ((with_reducible refine' g_kbm0 ?h1 ?h2 ?_); (case h1 => assumption); (case h2 => walk_at "mem"))
  | ((with_reducible refine' g_app ?h1 ?h2 ?h3 ?_); (case h1 => assumption); (case h2 => walk_at "pk"); (case h3 => walk_at "sz"); intro H2 hh2)
  | ((with_reducible refine' g_kapp ?h1 ?h2 ?h3 ?_); (case h1 => assumption); (case h2 => walk_at "pk"); (case h3 => walk_at "sz"); intro H2 hh2)
  | ((with_reducible refine' g_fld ?h1 ?h2 ?h3 ?h4 ?h5 ?_); (case h1 => assumption); (case h2 => walk_at "mem"); (case h3 => assumption); (case h4 => assumption); (case h5 => rfl))
  | ((with_reducible refine' g_sfld ?h1 ?h2 ?h3 ?h4 ?h5 ?_); (case h1 => assumption); (case h2 => walk_at "pk"); (case h3 => assumption); (case h4 => assumption); (case h5 => decide); intro H2 hh2)
  | ((with_reducible refine' g_meth ?h1 ?h2 ?h3 ?_); (case h1 => assumption); (case h2 => walk_at "mem"); (case h3 => rfl))
  | ((with_reducible refine' g_prop ?h1 ?h2 ?_); (case h1 => assumption); (case h2 => walk_at "mem"))
  | ((with_reducible refine' g_make ?h1 ?_); (case h1 => assumption); intro x H2 hh2)
  | ((with_reducible refine' g_cat ?h1 ?h2 ?h3 ?h4 ?_); (case h1 => assumption); (case h2 => walk_at "mem"); (case h3 => walk_at "mem"); (case h4 => walk_at "sz"); intro p H2 hh2)
  | ((with_reducible refine' g_inT ?h1 ?h2 ?h3 ?h4 ?h5 ?_); (case h1 => assumption); (case h2 => walk_at "mem"); (case h3 => rfl); (case h4 => rfl); (case h5 => rfl)))
local macro_rules | `(tactic| walk_at "gs") => `(tactic| repeat first | walk_at "s1" | walk_at "g1")
local macro_rules | `(tactic| walk_at "ite") => `(tactic| first
  | ((with_reducible refine' w_iteT ?h1 ?_); (case h1 => omega))
  | ((with_reducible refine' w_iteF ?h1 ?_); (case h1 => omega))
  | (with_reducible refine w_ite ?_ ?_ <;> intro hq)
  | ((with_reducible refine' w_iteNT ?h1 ?_); (case h1 => omega))
  | ((with_reducible refine' w_iteNF ?h1 ?_); (case h1 => omega))
  | (with_reducible refine w_iteN ?_ ?_ <;> intro hq))
local macro_rules | `(tactic| walk_at "go") => `(tactic| repeat' first | walk_at "s1" | walk_at "g1" | walk_at "ite")
local macro_rules | `(tactic| walk_at "g1") => `(tactic| first
  | ((with_reducible refine' g_take1 ?h1 ?h2 ?h3 ?h4 ?_); (case h1 => assumption); (case h2 => walk_at "spl"); (case h3 => omega); (case h4 => omega); intro k H2 hk1 hh2)
  | ((with_reducible refine' g_take ?h1 ?h2 ?h4 ?_); (case h1 => assumption); (case h2 => walk_at "spl"); (case h4 => omega); intro k H2 hk1 hh2)
  | ((with_reducible refine' g_betweenN ?h1 ?h2 ?h5 ?h3 ?h4 ?_); (case h1 => assumption); (case h2 => walk_at "spl"); (case h5 => omega); (case h3 => omega); (case h4 => omega); intro k H2 hk1 hk2 hh2)
  | ((with_reducible refine' g_between ?h1 ?h2 ?h3 ?h4 ?_); (case h1 => assumption); (case h2 => walk_at "spl"); (case h3 => omega); (case h4 => omega); intro k H2 hk1 hk2 hh2)
  | ((with_reducible refine' g_size ?h1 ?h2 ?h3 ?h4 ?_); (case h1 => assumption); (case h2 => walk_at "spl"); (case h3 => omega); (case h4 => omega); intro k H2 hk1 hh2)
  | ((with_reducible refine' g_word ?h1 ?h2 ?_); (case h1 => assumption); (case h2 => walk_at "spl"); intro k H2 hk1 hh2))
local macro_rules | `(tactic| walk_at "g1") => `(tactic| first | with_reducible refine w_sl ?_ | with_reducible refine w_part ?_ | with_reducible refine w_noPart ?_ | with_reducible refine w_exI ?_)
local macro_rules | `(tactic| walk_at "g1") => `(tactic| first | with_reducible refine w_din ?_ | with_reducible refine w_dnotin ?_ | with_reducible refine w_dget ?_ | with_reducible refine w_dput ?_ | with_reducible refine w_ddel ?_ | with_reducible refine w_dpop ?_)
section
variable {P : Program} {w : World} {K : PySem.W.Frag} {mg : Str → Option Value} {base : Heap} {aREG aOPS : Addr}
/-- every def of the text under its name -/
structure Defs (K : PySem.W.Frag) (mg : Str → Option Value) (C  : Addr) : Prop where
  is_integer : DefAt K mg "is_integer" s_is_integer
  is_in_range : DefAt K mg "is_in_range" s_is_in_range
  ask_range : DefAt K mg "ask_range" s_ask_range
  ask_truth : DefAt K mg "ask_truth" s_ask_truth
  longest_wait : DefAt K mg "longest_wait" s_longest_wait
  mixed : DefAt K mg "_law_mixed" s__law_mixed
  store : DefAt K mg "_law_store" s__law_store
  take : DefAt K mg "_law_take" s__law_take
  pick : DefAt K mg "_law_pick" s__law_pick
  between : DefAt K mg "_law_between" s__law_between
  size : DefAt K mg "_law_size" s__law_size
  fresh : DefAt K mg "_law_fresh" s__law_fresh
  distinct : DefAt K mg "_law_distinct" s__law_distinct
  wrong_integer : DefAt K mg "_law_wrong_integer" s__law_wrong_integer
  alike : DefAt K mg "_law_alike" s__law_alike
  copy : DefAt K mg "_law_copy" s__law_copy
  law_longest_wait : DefAt K mg "_law_longest_wait" s__law_longest_wait
  error : DefAt K mg "_law_error" s__law_error
  ages_deeds : DefAt K mg "_law_ages_deeds" s__law_ages_deeds
  logged : DefAt K mg "_law_logged" s__law_logged
  counted : DefAt K mg "_law_counted" s__law_counted
  reaches : DefAt K mg "_law_reaches" s__law_reaches
  bound_refused : DefAt K mg "_law_bound_refused" s__law_bound_refused
  wait_refused : DefAt K mg "_law_wait_refused" s__law_wait_refused
  m_leave : MetAt K C "leave" "Ages.leave" s_Ages__leave
  m_wake : MetAt K C "wake" "Ages.wake" s_Ages__wake
  m_sleep : MetAt K C "sleep" "Ages.sleep" s_Ages__sleep
  m_pick : MetAt K C "pick" "Ages.pick" s_Ages__pick
  m_priority : MetAt K C "priority" "Ages.priority" s_Ages__priority
  m_age : MetAt K C "age" "Ages.age" s_Ages__age
  m_rows : MetAt K C "rows" "Ages.rows" s_Ages__rows
  m_contains : MetAt K C "__contains__" "Ages.__contains__" s_Ages____contains__
  m_ask_member : MetAt K C "_ask_member" "Ages._ask_member" s_Ages___ask_member
  m_effective : MetAt K C "_effective" "Ages._effective" s_Ages___effective
theorem all_law {C f fI fE fL fS pB fB CE W fBI : Addr} {fd fdI fdE fdL fdS fdB fdBI : FuncData} (T : Txt K mg aREG aOPS) (L : AgC K C) (D : Defs K mg C) (dI : DefM K "__init__" "Ages.__init__" s_Ages____init__ [] fI fdI) (mI : Mk K C fI) (gI : mg "Ages" = some (.ref C))
    (dE : EnF K C fE fdE) (mE : Meth K C "enter" fE) (dL : DefM K "lend" "Ages.lend" s_Ages__lend [.int 0] fL fdL) (mL : Meth K C "lend" fL) (dS : DefM K "_standing" "Ages._standing" s_Ages___standing [] fS fdS) (mS : BMeth K C "_standing" fS) (dB : BoF K fB fdB) (mB : SMet K C "bound" pB fB)
    (F : FunT K "law" s_law f fd) (R : ErrC K mg CE W fBI) (dBI : DefM K "__init__" "BadArgument.__init__" s_BadArgument____init__ [] fBI fdBI) : FnOk P w K mg base CX0 8 f fd ["script"] (sp_law K) := by
  have gA : ∃ u, mg "Ages" = some u ∧ RelV (.ref C) u := ⟨_, gI, rfl⟩
  have mixed := c_mixed (P := P) (w := w) (base := base) T D.mixed
  have store := c_store (P := P) (w := w) (base := base) T D.store
  have take := c_take T D.take mixed
  have pick := c_pick T D.pick take
  have between := c_between T D.between take
  have size := c_size T D.size take
  have fresh := c_fresh (P := P) (w := w) (base := base) T D.fresh
  have distinct := c_distinct T D.distinct take fresh
  have freshN := c_freshN (P := P) (w := w) (base := base) T D.fresh
  have distN := c_distN T D.distinct take freshN
  have wrongD := c_wrongD T D.wrong_integer take pick
  have alike := c_alike (P := P) (w := w) (base := base) T D.alike 3
  have int_ := c_integer (P := P) (w := w) (base := base) T D.is_integer
  have range := c_range T D.is_in_range int_
  have ask := c_ask T D.ask_range range
  have askT := c_askT (P := P) (w := w) (base := base) T D.ask_truth
  have agI_ := c_agI (P := P) (w := w) (base := base) T L dI mI gI
  have askM := c_askM T L D.m_ask_member ask
  have eff := c_eff (P := P) (w := w) (mg := mg) (base := base) T L D.m_effective
  have std := f_std T L dS eff
  have wake := c_wake T L D.m_wake askM
  have sleep := c_sleep T L D.m_sleep askM
  have lend2 := c_lend2 T L dL mL ask askM
  have enter2 := c_enter2 T L dE mE ask askT
  have leave := c_leave T L D.m_leave askM
  have pickA := c_pickA T L D.m_pick std mS
  have bound2 := c_bound2 dB mB ask
  have bound1 := c_bound1 dB mB ask
  have boundK := ck_bound dB mB ask
  have copy3 := c_copy (P := P) (w := w) (base := base) T D.copy 2
  have copyL := c_copyL 1 T D.copy copy3
  have lwait := c_lwait (P := P) (w := w) (base := base) T D.law_longest_wait
  have pwait := c_pwait T D.longest_wait ask
  have pwaitK := ck_wait T D.longest_wait ask
  have deeds := c_deeds T D.ages_deeds take pick between distinct
  have logged := c_logged T L D.logged pickA leave wake sleep lend2 enter2
  have counted := c_counted (P := P) (w := w) (base := base) T D.counted
  have reaches := c_reaches T L gA D.reaches agI_ logged alike pwait bound2
  have askX := x_ask T R dBI D.ask_range range
  have boundX := x_bound T dB mB ask askX
  have waitX := x_wait T D.longest_wait askX
  obtain ⟨fE2, fdE2, FE, hmE⟩ := D.error
  have bref := c_bref T R gA D.bound_refused boundX (e_err T R FE) hmE FE.kp (FunD.bindsN FE fun _ _ _ _ _ _ us hl => match us, hl with | [_], _ => rfl)
  have wref := c_wref T R D.wait_refused waitX (e_err T R FE) hmE FE.kp (FunD.bindsN FE fun _ _ _ _ _ _ us hl => match us, hl with | [_], _ => rfl)
  exact c_law T L gA F store take size agI_ copyL alike deeds logged counted lwait pwait pwaitK bound2 bound1 boundK distN reaches wrongD bref wref
end
end K24
namespace K24
open PySem PySem.Spec PyProof.Rows L2 Wk
theorem facts_err {K : PySem.W.Frag} {h : Heap} {mg : Str → Option Value} (X : K.In h) (G : h.Ns mainGlobals mg) (c : errB K = true) : ErrC K mg (He.ga K "BadArgument") (He.ga K "WardError") (He.fAd K ("BadArgument", some "__init__")) := by
  obtain ⟨h1, c⟩ := He.ba c
  obtain ⟨h2, c⟩ := He.ba c
  obtain ⟨h3, c⟩ := He.ba c
  obtain ⟨h4, c⟩ := He.ba c
  obtain ⟨h5, c⟩ := He.ba c
  obtain ⟨h6, c⟩ := He.ba c
  obtain ⟨h7, c⟩ := He.ba c
  obtain ⟨h8, c⟩ := He.ba c
  obtain ⟨h9, c⟩ := He.ba c
  obtain ⟨h10, c⟩ := He.ba c
  obtain ⟨h11, c⟩ := He.ba c
  obtain ⟨h12, c⟩ := He.ba c
  obtain ⟨h13, c⟩ := He.ba c
  obtain ⟨h14, c⟩ := He.ba c
  obtain ⟨h15, c⟩ := He.ba c
  refine ⟨PySem.W.mg_of X G (He.eqO_ok h1), PySem.W.mg_of X G (He.eqO_ok h2), PySem.W.mg_none_of X G (He.eqO_ok h3), oexB_ok h4, L2.xfB_ok h5, excB_ok h6, He.eqO_ok h7, He.eqO_ok h8, of_decide_eq_true h9, He.eqO_ok h10, wrB_ok h11, of_decide_eq_true h12, of_decide_eq_true h13, of_decide_eq_true h14, of_decide_eq_true h15, fun x hx => ?_⟩
  obtain ⟨z1, z2⟩ := He.ba (List.all_eq_true.mp c x hx)
  exact ⟨_, PySem.W.mg_of X G (He.eqO_ok z1), of_decide_eq_true z2⟩
theorem facts {P : Program} {w : World} {K : PySem.W.Frag} {h : Heap} {mg : Str → Option Value} {f : Addr} (X : K.In h) (G : h.Ns mainGlobals mg) (hfa : mg ("law" : Str) = some (.ref f)) (c : He.SaysX fa fn [] tf ex w h K) (cg : He5.SaysA [] axs K) :
    ∃ fd : FuncData, (∀ (s : Shared) (v : Value), BindsTo s fd ⟨[v], []⟩ [("script", v)]) ∧ ∀ base : Heap, FnOk P w K mg base CX0 8 f fd ["script"] (sp_law K) := by
  have cm := c.more
  obtain ⟨xb_standing, cm⟩ := He.ba cm
  obtain ⟨xs_bound, x6⟩ := He.ba cm
  obtain ⟨fd_is_integer, F_is_integer⟩ := c.t.d.def_ 0 (d := d_is_integer) rfl
  obtain ⟨fd_is_in_range, F_is_in_range⟩ := c.t.d.def_ 1 (d := d_is_in_range) rfl
  obtain ⟨fd_ask_range, F_ask_range⟩ := c.t.d.def_ 2 (d := d_ask_range) rfl
  obtain ⟨fd_ask_truth, F_ask_truth⟩ := c.t.d.def_ 3 (d := d_ask_truth) rfl
  obtain ⟨fd_longest_wait, F_longest_wait⟩ := c.t.d.def_ 4 (d := d_longest_wait) rfl
  obtain ⟨fd__law_mixed, F__law_mixed⟩ := c.t.d.def_ 5 (d := d__law_mixed) rfl
  obtain ⟨fd__law_store, F__law_store⟩ := c.t.d.def_ 6 (d := d__law_store) rfl
  obtain ⟨fd__law_take, F__law_take⟩ := c.t.d.def_ 7 (d := d__law_take) rfl
  obtain ⟨fd__law_pick, F__law_pick⟩ := c.t.d.def_ 8 (d := d__law_pick) rfl
  obtain ⟨fd__law_between, F__law_between⟩ := c.t.d.def_ 9 (d := d__law_between) rfl
  obtain ⟨fd__law_size, F__law_size⟩ := c.t.d.def_ 10 (d := d__law_size) rfl
  obtain ⟨fd__law_fresh, F__law_fresh⟩ := c.t.d.def_ 11 (d := d__law_fresh) rfl
  obtain ⟨fd__law_distinct, F__law_distinct⟩ := c.t.d.def_ 12 (d := d__law_distinct) rfl
  obtain ⟨fd__law_wrong_integer, F__law_wrong_integer⟩ := c.t.d.def_ 13 (d := d__law_wrong_integer) rfl
  obtain ⟨fd__law_alike, F__law_alike⟩ := c.t.d.def_ 14 (d := d__law_alike) rfl
  obtain ⟨fd__law_copy, F__law_copy⟩ := c.t.d.def_ 15 (d := d__law_copy) rfl
  obtain ⟨fd__law_longest_wait, F__law_longest_wait⟩ := c.t.d.def_ 16 (d := d__law_longest_wait) rfl
  obtain ⟨fd__law_error, F__law_error⟩ := c.t.d.def_ 17 (d := d__law_error) rfl
  obtain ⟨fd__law_ages_deeds, F__law_ages_deeds⟩ := c.t.d.def_ 18 (d := d__law_ages_deeds) rfl
  obtain ⟨fd__law_logged, F__law_logged⟩ := c.t.d.def_ 19 (d := d__law_logged) rfl
  obtain ⟨fd__law_counted, F__law_counted⟩ := c.t.d.def_ 20 (d := d__law_counted) rfl
  obtain ⟨fd__law_reaches, F__law_reaches⟩ := c.t.d.def_ 21 (d := d__law_reaches) rfl
  obtain ⟨fd__law_bound_refused, F__law_bound_refused⟩ := c.t.d.def_ 22 (d := d__law_bound_refused) rfl
  obtain ⟨fd__law_wait_refused, F__law_wait_refused⟩ := c.t.d.def_ 23 (d := d__law_wait_refused) rfl
  obtain ⟨fd_law, F_law⟩ := c.t.d.def_ 24 (d := d_law) rfl
  obtain ⟨fdM_leave, FM_leave⟩ := c.t.d.def_ 25 (d := d_M_leave) rfl
  obtain ⟨fdM_wake, FM_wake⟩ := c.t.d.def_ 26 (d := d_M_wake) rfl
  obtain ⟨fdM_sleep, FM_sleep⟩ := c.t.d.def_ 27 (d := d_M_sleep) rfl
  obtain ⟨fdM_pick, FM_pick⟩ := c.t.d.def_ 28 (d := d_M_pick) rfl
  obtain ⟨fdM_priority, FM_priority⟩ := c.t.d.def_ 29 (d := d_M_priority) rfl
  obtain ⟨fdM_age, FM_age⟩ := c.t.d.def_ 30 (d := d_M_age) rfl
  obtain ⟨fdM_rows, FM_rows⟩ := c.t.d.def_ 31 (d := d_M_rows) rfl
  obtain ⟨fdM___contains__, FM___contains__⟩ := c.t.d.def_ 32 (d := d_M___contains__) rfl
  obtain ⟨fdM__ask_member, FM__ask_member⟩ := c.t.d.def_ 33 (d := d_M__ask_member) rfl
  obtain ⟨fdM__effective, FM__effective⟩ := c.t.d.def_ 34 (d := d_M__effective) rfl
  obtain ⟨fdM_enter, FM_enter⟩ := c.t.d.def_ 35 (d := d_M_enter) rfl
  obtain ⟨fdM_lend, FM_lend⟩ := c.t.d.def_ 36 (d := d_M_lend) rfl
  obtain ⟨fdM__standing, FM__standing⟩ := c.t.d.def_ 37 (d := d_M__standing) rfl
  obtain ⟨fdM___init__, FM___init__⟩ := c.t.d.def_ 38 (d := d_M___init__) rfl
  obtain ⟨fdS_bound, FS_bound⟩ := cg.def_ 0 (d := d_S_bound) rfl
  obtain ⟨fdB_init, FB_init⟩ := c.t.d.def_ 39 (d := d_B_init) rfl
  have e := hfa.symm.trans (He.glo_ok X G (c.t.d.fact 24 (f := .glo "law") rfl))
  cases e
  have b := FunD.bindsA (ps := ["script"]) F_law fun _ _ _ _ _ _ us hl => match us, hl with | [_], _ => rfl
  have T : Txt K mg 0 0 := ⟨⟨He.free_ok X G (c.t.d.fact 42 (f := .free "int") rfl), He.free_ok X G (c.t.d.fact 43 (f := .free "len") rfl), He.free_ok X G (c.t.d.fact 44 (f := .free "range") rfl), He.free_ok X G (c.t.d.fact 45 (f := .free "list") rfl), He.free_ok X G (c.t.d.fact 46 (f := .free "abs") rfl), He.free_ok X G (c.t.d.fact 47 (f := .free "min") rfl), He.free_ok X G (c.t.d.fact 48 (f := .free "max") rfl), He.free_ok X G (c.t.d.fact 49 (f := .free "isinstance") rfl), He.free_ok X G (c.t.d.fact 50 (f := .free "bool") rfl), He.free_ok X G (c.t.d.fact 51 (f := .free "str") rfl), He.free_ok X G (c.t.d.fact 52 (f := .free "tuple") rfl), He.free_ok X G (c.t.d.fact 53 (f := .free "dict") rfl), He.free_ok X G (c.t.d.fact 54 (f := .free "sorted") rfl), He.free_ok X G (c.t.d.fact 55 (f := .free "all") rfl), He.free_ok X G (c.t.d.fact 56 (f := .free "any") rfl), He.free_ok X G (c.t.d.fact 57 (f := .free "zip") rfl), He.free_ok X G (c.t.d.fact 58 (f := .free "enumerate") rfl), He.free_ok X G (c.t.d.fact 59 (f := .free "sum") rfl)⟩⟩
  have cl := He.cls_ok (c.t.d.fact 26 (f := .cls "Ages") rfl)
  have L : AgC K (He.ga K "Ages") := ⟨cl, He.noat_ok (c.t.d.fact 27 (f := .noat "Ages" "_members") rfl)⟩
  have D : Defs K mg (He.ga K "Ages")  := ⟨
    ⟨_, _, F_is_integer, He.glo_ok X G (c.t.d.fact 0 (f := .glo "is_integer") rfl)⟩,
    ⟨_, _, F_is_in_range, He.glo_ok X G (c.t.d.fact 1 (f := .glo "is_in_range") rfl)⟩,
    ⟨_, _, F_ask_range, He.glo_ok X G (c.t.d.fact 2 (f := .glo "ask_range") rfl)⟩,
    ⟨_, _, F_ask_truth, He.glo_ok X G (c.t.d.fact 3 (f := .glo "ask_truth") rfl)⟩,
    ⟨_, _, F_longest_wait, He.glo_ok X G (c.t.d.fact 4 (f := .glo "longest_wait") rfl)⟩,
    ⟨_, _, F__law_mixed, He.glo_ok X G (c.t.d.fact 5 (f := .glo "_law_mixed") rfl)⟩,
    ⟨_, _, F__law_store, He.glo_ok X G (c.t.d.fact 6 (f := .glo "_law_store") rfl)⟩,
    ⟨_, _, F__law_take, He.glo_ok X G (c.t.d.fact 7 (f := .glo "_law_take") rfl)⟩,
    ⟨_, _, F__law_pick, He.glo_ok X G (c.t.d.fact 8 (f := .glo "_law_pick") rfl)⟩,
    ⟨_, _, F__law_between, He.glo_ok X G (c.t.d.fact 9 (f := .glo "_law_between") rfl)⟩,
    ⟨_, _, F__law_size, He.glo_ok X G (c.t.d.fact 10 (f := .glo "_law_size") rfl)⟩,
    ⟨_, _, F__law_fresh, He.glo_ok X G (c.t.d.fact 11 (f := .glo "_law_fresh") rfl)⟩,
    ⟨_, _, F__law_distinct, He.glo_ok X G (c.t.d.fact 12 (f := .glo "_law_distinct") rfl)⟩,
    ⟨_, _, F__law_wrong_integer, He.glo_ok X G (c.t.d.fact 13 (f := .glo "_law_wrong_integer") rfl)⟩,
    ⟨_, _, F__law_alike, He.glo_ok X G (c.t.d.fact 14 (f := .glo "_law_alike") rfl)⟩,
    ⟨_, _, F__law_copy, He.glo_ok X G (c.t.d.fact 15 (f := .glo "_law_copy") rfl)⟩,
    ⟨_, _, F__law_longest_wait, He.glo_ok X G (c.t.d.fact 16 (f := .glo "_law_longest_wait") rfl)⟩,
    ⟨_, _, F__law_error, He.glo_ok X G (c.t.d.fact 17 (f := .glo "_law_error") rfl)⟩,
    ⟨_, _, F__law_ages_deeds, He.glo_ok X G (c.t.d.fact 18 (f := .glo "_law_ages_deeds") rfl)⟩,
    ⟨_, _, F__law_logged, He.glo_ok X G (c.t.d.fact 19 (f := .glo "_law_logged") rfl)⟩,
    ⟨_, _, F__law_counted, He.glo_ok X G (c.t.d.fact 20 (f := .glo "_law_counted") rfl)⟩,
    ⟨_, _, F__law_reaches, He.glo_ok X G (c.t.d.fact 21 (f := .glo "_law_reaches") rfl)⟩,
    ⟨_, _, F__law_bound_refused, He.glo_ok X G (c.t.d.fact 22 (f := .glo "_law_bound_refused") rfl)⟩,
    ⟨_, _, F__law_wait_refused, He.glo_ok X G (c.t.d.fact 23 (f := .glo "_law_wait_refused") rfl)⟩,
    ⟨_, _, FM_leave, cl, He.meth_ok (c.t.d.fact 29 (f := .meth "Ages" "leave") rfl)⟩,
    ⟨_, _, FM_wake, cl, He.meth_ok (c.t.d.fact 30 (f := .meth "Ages" "wake") rfl)⟩,
    ⟨_, _, FM_sleep, cl, He.meth_ok (c.t.d.fact 31 (f := .meth "Ages" "sleep") rfl)⟩,
    ⟨_, _, FM_pick, cl, He.meth_ok (c.t.d.fact 32 (f := .meth "Ages" "pick") rfl)⟩,
    ⟨_, _, FM_priority, cl, He.meth_ok (c.t.d.fact 33 (f := .meth "Ages" "priority") rfl)⟩,
    ⟨_, _, FM_age, cl, He.meth_ok (c.t.d.fact 34 (f := .meth "Ages" "age") rfl)⟩,
    ⟨_, _, FM_rows, cl, He.meth_ok (c.t.d.fact 35 (f := .meth "Ages" "rows") rfl)⟩,
    ⟨_, _, FM___contains__, cl, He.meth_ok (c.t.d.fact 36 (f := .meth "Ages" "__contains__") rfl)⟩,
    ⟨_, _, FM__ask_member, cl, He.meth_ok (c.t.d.fact 37 (f := .meth "Ages" "_ask_member") rfl)⟩,
    ⟨_, _, FM__effective, cl, He.meth_ok (c.t.d.fact 38 (f := .meth "Ages" "_effective") rfl)⟩⟩
  refine ⟨fd_law, fun s v => b s [v] rfl, fun base  => ?_⟩
  exact all_law T  L D FM___init__ (He.mkr_ok (c.t.d.fact 28 (f := .mkr "Ages") rfl)) (He.glo_ok X G (c.t.d.fact 25 (f := .glo "Ages") rfl)) FM_enter (He.meth_ok (c.t.d.fact 39 (f := .meth "Ages" "enter") rfl)) FM_lend (He.meth_ok (c.t.d.fact 40 (f := .meth "Ages" "lend") rfl)) FM__standing (bmB_ok xb_standing (He.meth_ok (c.t.d.fact 41 (f := .meth "Ages" "_standing") rfl))) FS_bound (stB_ok xs_bound) F_law (facts_err X G x6) FB_init
end K24
open PySem PySem.W PySem.Calls PyProof.Rows
theorem PySem.Challenge.cw_wardwork_k24_wait_within_the_bound_holds : PySem.Challenge.rw_wardwork_k24_wait_within_the_bound.Holds := by
  w_on; o_law
  refine HandSHeadRun.head_any (r := OpenLaw.row PySem.Challenge.rw_wardwork_k24_wait_within_the_bound) (q := view (OpenLaw.row PySem.Challenge.rw_wardwork_k24_wait_within_the_bound).prog [44]) (H := K24.hookY) (ob := K24.ob) (M := 20000) (loose := K24.loose) (d := HandSHeadRun.topDef (OpenLaw.row PySem.Challenge.rw_wardwork_k24_wait_within_the_bound).prog 44) (kwd := []) K24.ob_eq
    (by kernel_rfl) (fun s => by kernel_rfl) K24.run (by kernel_rfl) (by kernel_rfl) (by kernel_rfl) (by rfl) (by first | assumption | decide +kernel) (by decide +kernel) ⟨rfl, rfl, rfl, rfl, rfl, by decide +kernel⟩ ?hw ?hc
  case hw => w_witness2
  case hc =>
    refine LamX.walk_ofTsE (l := PySem.Challenge.rw_wardwork_k24_wait_within_the_bound) (n := 63) (k := 8) (x := "script") (CX := fun _ => C8.CX0) rfl (by decide) (by kernel_rfl) ⟨rfl, by decide, by decide⟩ ?F (fun _ _ _ _ _ z => z)
    intro w mg fa h Y G hmg0
    obtain ⟨K, KX, c, cg⟩ := Y
    have hmg : mg ("law" : PySem.Str) = some (.ref fa) := by
      have e : (HandSHeadRun.topDef (OpenLaw.row PySem.Challenge.rw_wardwork_k24_wait_within_the_bound).prog 44).name = ("law" : PySem.Str) := by kernel_rfl
      rw [← e]
      exact hmg0
    obtain ⟨fd, hb, hF⟩ := K24.facts (P := (PySem.Challenge.rw_wardwork_k24_wait_within_the_bound).prog) (w := w) KX G hmg c cg
    refine ⟨K, KX, fd, [], K24.sp_law K, fun p hp => ?_, fun p hp => ?_, fun p hp => ?_, hb, fun H a ns hl _ hT hS => ⟨a, ns, rfl, hS, hl, fun _ => rfl⟩, fun base _ _ hTB => ?_⟩
    · cases hp
    · cases hp
    · cases hp
    · exact hF base
