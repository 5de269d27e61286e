import PyProof.Rows.All
import Wide.All
import OpenK.AllK
import Wide.FinOn
import HandS.AnyAll
import HandS.Codes
import HandS.Conv
import HandS.Defaults
import HandS.Ends
import HandS.Evl
import HandS.ExcField
import HandS.ExcInit
import HandS.ExcIs
import HandS.ExcOwn
import HandS.FStr
import HandS.ForMost
import HandS.Head0
import HandS.Head1
import HandS.Head2
import HandS.HeadEnd
import HandS.HeadHook1
import HandS.HeadHook2
import HandS.HeadHook3
import HandS.HeadHook4
import HandS.HeadNt
import HandS.HeadWalk
import HandS.HotCalls
import HandS.IsInst
import HandS.IterVal
import HandS.MakeKw
import HandS.MakeKwOnly
import HandS.More
import HandS.OwnIter
import HandS.Property
import HandS.SortInts
import HandS.SortKw
import HandS.Star
import HandS.Steps
import HandS.Strs
import HandS.Walk
import HandS.Wide
import HandS.Words
import HandS.WordsExc
import KE.KExcIs
import KE.KMinKey
import PySem.Challenge.RW_wardwork_k45_pipe_in_order
set_option Elab.async false
set_option linter.all false
set_option maxRecDepth 100000
set_option maxHeartbeats 4000000
/-! Wk: rules that the layer lacks, and steps that read a term from the left. -/
namespace Wk
open PySem PySem.Spec PyProof.Rows L2

/-! ### rules -/
section
variable {X : Cx}
theorem get_list : PGet X (rIxL X.K) := by
  intro pins s σ H o i ov iv Q I ro ri h
  obtain ⟨p, xs, k, z, rfl, rfl, hq, he, q⟩ := h
  cases ro
  obtain ⟨t, rfl⟩ := ri
  obtain ⟨its, r, pl, hz⟩ := I.list hq
  obtain ⟨j, e1, e2, e3, e4, e5⟩ := atI_get he
  obtain ⟨w, ew, rw'⟩ := r.get e2
  have hl := r.length
  have hn := line63
  have done : EP X pins σ Q w s := ⟨z, H, I, rw', q⟩
  by_cases h0 : 0 ≤ k
  · have hj : k.toNat = j := by
      rw [seqIndex_of h0 e5] at e1
      exact Option.some.inj e1
    exact wpAny_getItem_list pl.isList h0 (by omega) (by rw [hj]; simpa using ew) done
  · have hj : (k + (its.toArray.size : Int)).toNat = j := by
      rw [seqIndex_neg (by omega) e4] at e1
      rw [List.size_toArray, ← hl]
      exact Option.some.inj e1
    exact wpAny_getItem_list_neg pl.isList (by omega) (by rw [List.size_toArray] <;> omega) (by omega) (by rw [hj]; simpa using ew) done
end

/-- the built-in names that the module leaves as they are -/
structure Bt (mg : Str → Option Value) : Prop where
  b_int : mg "int" = none
  b_len : mg "len" = none
  b_range : mg "range" = none
  b_list : mg "list" = none
  b_abs : mg "abs" = none
  b_min : mg "min" = none
  b_max : mg "max" = none
  b_isinstance : mg "isinstance" = none
  b_bool : mg "bool" = none
  b_str : mg "str" = none
  b_tuple : mg "tuple" = none
  b_dict : mg "dict" = none
  b_sorted : mg "sorted" = none
  b_all : mg "all" = none
  b_any : mg "any" = none
  b_zip : mg "zip" = none
  b_enumerate : mg "enumerate" = none
  b_sum : mg "sum" = none
/-! ### heaps: how they may change -/
/-- all that H knows outside S stands in H' -/
def Upt (S : List Addr) (H H' : Hp) : Prop := ∀ b o, b ∉ S → H b = some o → H' b = some o
theorem Upt.refl {S : List Addr} (H : Hp) : Upt S H H := fun _ _ _ h => h
theorem Upt.trans {S : List Addr} {H H1 H2 : Hp} (a : Upt S H H1) (b : Upt S H1 H2) : Upt S H H2 := fun c o n h => b c o n (a c o n h)
theorem Upt.mono {S T : List Addr} {H H1 : Hp} (h : ∀ b ∈ S, b ∈ T) (a : Upt S H H1) : Upt T H H1 := fun c o n e => a c o (fun z => n (h c z)) e
theorem Upt.at1 {s b : Addr} {o : HO} {H H1 : Hp} (a : Upt [s] H H1) (n : b ≠ s) (e : H b = some o) : H1 b = some o := a b o (fun z => n (List.mem_singleton.mp z)) e
theorem Upt.at0 {b : Addr} {o : HO} {H H1 : Hp} (a : Upt [] H H1) (e : H b = some o) : H1 b = some o := a b o (fun z => by cases z) e
theorem Upt.free {S : List Addr} {H H1 : Hp} {b : Addr} (a : Upt S H H1) (n : b ∉ S) (e : H1 b = none) : H b = none := by
  cases q : H b with
  | none => rfl
  | some o => rw [a b o n q] at e; cases e
theorem Upt.upd {s : Addr} {o : HO} {H : Hp} : Upt [s] H (upd H s o) := fun b u n e => by
  rw [upd_ne (fun z => n (List.mem_singleton.mpr z))]; exact e
theorem Upt.seqL {S : List Addr} {K : PySem.W.Frag} {H H1 : Hp} {a : Addr} {xs : List V} (u : Upt S H H1) (n : a ∉ S) (h : SqL K H a xs) : SqL K H1 a xs := by
  rcases h with (h | ⟨o, h⟩) | h
  · exact .inl (.inl (u _ _ n h))
  · exact .inl (.inr ⟨o, u _ _ n h⟩)
  · exact .inr h
theorem Upt.seqT {S : List Addr} {K : PySem.W.Frag} {H H1 : Hp} {a : Addr} {xs : List V} (u : Upt S H H1) (n : a ∉ S) (h : SqT K H a xs) : SqT K H1 a xs := by
  rcases h with (h | ⟨o, h⟩) | h
  · exact .inl (.inl (u _ _ n h))
  · exact .inl (.inr ⟨o, u _ _ n h⟩)
  · exact .inr h
theorem _root_.L2.SqL.upt {K : PySem.W.Frag} {H H1 : Hp} {a : Addr} {xs : List V} (h : SqL K H a xs) (u : Upt [] H H1) : SqL K H1 a xs := u.seqL (by simp) h
theorem _root_.L2.SqT.upt {K : PySem.W.Frag} {H H1 : Hp} {a : Addr} {xs : List V} (h : SqT K H a xs) (u : Upt [] H H1) : SqT K H1 a xs := u.seqT (by simp) h
/-- o is new at p -/
structure New (H H' : Hp) (p : Addr) (o : HO) : Prop where
  no : H p = none
  at_ : H' p = some o
  keep : Upt [] H H'
theorem New.of {H : Hp} {p : Addr} {o : HO} (h : H p = none) : New H (upd H p o) p o := ⟨h, upd_same, fun b u _ e => by rw [upd_ne (ne_of_none e h)]; exact e⟩
theorem New.ne {H H' : Hp} {p b : Addr} {o u : HO} (n : New H H' p o) (h : H b = some u) : b ≠ p := ne_of_none h n.no
theorem New.ne' {H H' : Hp} {p b : Addr} {o u : HO} (n : New H H' p o) (h : H b = some u) : p ≠ b := Ne.symm (n.ne h)
/-- o stands at l now, nothing else has changed -/
structure Chg (H H' : Hp) (l : Addr) (o : HO) : Prop where
  at_ : H' l = some o
  keep : Upt [l] H H'
theorem Chg.of {H : Hp} {p : Addr} {o : HO} : Chg H (upd H p o) p o := ⟨upd_same, Upt.upd⟩

/-! ### steps -/
section
variable {K : PySem.W.Frag} {σ : L2.St} {H : Hp} {Q : VK} {QA : List V → Hp → Prop} {QT : Bool → Hp → Prop} {ta tb tc te tv : TE} {tt tu : TT} {t tr : TA} {u1 u2 : TS} {D : Ends} {v x y : V} {i j : Int} {r : R2}
theorem w_var {n : Nat} (h : σ[n]? = some (some v)) (q : Q v H) : tVar n σ H Q := ⟨v, h, q⟩
theorem w_c (q : Q v H) : tC v σ H Q := q
theorem w_op (h : ta σ H fun x H1 => tb σ H1 fun y H2 => r x y H2 Q) : tOp r ta tb σ H Q := h
theorem w_un {g : V → Hp → VK → Prop} (h : ta σ H fun x H1 => g x H1 Q) : tUn g ta σ H Q := h
theorem w_I0 {g : Int → Int → V} (q : Q (g i j) H) : rI0 g (.int i) (.int j) H Q := ⟨i, j, rfl, rfl, q⟩
theorem w_I {C : Int → Int → Prop} {g : Int → Int → V} (c : C i j) (q : Q (g i j) H) : rI C g (.int i) (.int j) H Q := ⟨i, j, rfl, rfl, c, q⟩
theorem w_U {g : Int → V} (q : Q (g i) H) : rU g (.int i) H Q := ⟨i, rfl, q⟩
theorem w_eq (h : scal x y = true) (q : Q (.bl (decide (x = y))) H) : rEq x y H Q := ⟨h, q⟩
theorem w_ne (h : scal x y = true) (q : Q (.bl (!decide (x = y))) H) : rNe x y H Q := ⟨h, q⟩
theorem dec_int (i j : Int) : decide (V.int i = V.int j) = decide (i = j) := by
  by_cases h : i = j
  · subst h; simp
  · rw [decide_eq_false h, decide_eq_false (fun e => h (V.int.inj e))]
theorem dec_str (i j : Str) : decide (V.str i = V.str j) = decide (i = j) := by
  by_cases h : i = j
  · subst h; simp
  · rw [decide_eq_false h, decide_eq_false (fun e => h (V.str.inj e))]
theorem w_eqI (q : Q (.bl (decide (i = j))) H) : rEq (.int i) (.int j) H Q := ⟨rfl, by rw [dec_int]; exact q⟩
theorem w_neI (q : Q (.bl (!decide (i = j))) H) : rNe (.int i) (.int j) H Q := ⟨rfl, by rw [dec_int]; exact q⟩
theorem w_eqS {a b : Str} (q : Q (.bl (decide (a = b))) H) : rEq (.str a) (.str b) H Q := ⟨rfl, by rw [dec_str]; exact q⟩
theorem w_neS {a b : Str} (q : Q (.bl (!decide (a = b))) H) : rNe (.str a) (.str b) H Q := ⟨rfl, by rw [dec_str]; exact q⟩
theorem w_test (h : te σ H fun x H' => ∃ k, x = .bl k ∧ QT k H') : tTest te σ H QT := h
theorem w_tB (h : te σ H fun x H' => ∃ k, x = .bl k ∧ QT k H') : tB te σ H QT := h
theorem w_k {b : Bool} {P : Bool → Prop} (q : P b) : ∃ k, V.bl b = .bl k ∧ P k := ⟨b, rfl, q⟩
theorem w_not (h : tt σ H fun c H1 => QT (!c) H1) : tNot tt σ H QT := h
theorem w_and (h : tt σ H fun c H1 => if c = true then tu σ H1 QT else QT false H1) : tAnd tt tu σ H QT := h
theorem w_or (h : tt σ H fun c H1 => if c = true then QT true H1 else tu σ H1 QT) : tOr tt tu σ H QT := h
theorem w_andV (h : ta σ H fun x H1 => ∃ c, x = .bl c ∧ if c = true then tb σ H1 Q else Q (.bl false) H1) : tAndV ta tb σ H Q := h
theorem w_orV (h : ta σ H fun x H1 => ∃ c, x = .bl c ∧ if c = true then Q (.bl true) H1 else tb σ H1 Q) : tOrV ta tb σ H Q := h
theorem w_notV (h : ta σ H fun x H1 => ∃ c, x = .bl c ∧ Q (.bl (!c)) H1) : tNotV ta σ H Q := h
theorem w_ifE (h : tt σ H fun c H1 => if c = true then ta σ H1 Q else tb σ H1 Q) : tIf tt ta tb σ H Q := h
theorem w_next (h : D.nx σ H) : tNext D σ H := h
theorem w_seq (h : u1 { D with nx := u2 D } σ H) : tSeq u1 u2 D σ H := h
theorem w_ifS (h : tt σ H fun b H1 => if b = true then u1 D σ H1 else u2 D σ H1) : tIfS tt u1 u2 D σ H := h
theorem w_ret (h : te σ H D.rt) : tRet te D σ H := h
theorem w_retN (h : D.rt .non H) : tRetN D σ H := h
theorem w_drop (h : te σ H fun _ H1 => D.nx σ H1) : tDrop te D σ H := h
theorem w_set {n : Nat} (h : te σ H fun x H1 => D.nx (σ.set n (some x)) H1) : tAsg te (gName n) D σ H := h
theorem w_asg {g : TG} (h : te σ H fun x H1 => g x σ H1 D.nx) : tAsg te g D σ H := h
theorem w_nil (q : QA [] H) : tNil σ H QA := q
theorem w_cons (h : ta σ H fun x H1 => tr σ H1 fun xs H2 => QA (x :: xs) H2) : tCons ta tr σ H QA := h
/-- a new object, and what follows with its address -/
def KNew (n : Nat) (H : Hp) (o : HO) (Q : VK) : Prop := n ≤ sizeLine ∧ ∀ p, H p = none → Q (.ref p) (upd H p o)
theorem w_tup (h : t σ H fun xs H1 => KNew xs.length H1 (.tup xs) Q) : tTup t σ H Q := h
theorem w_lst (h : t σ H fun xs H1 => KNew xs.length H1 (.lst xs) Q) : tLst t σ H Q := h
theorem w_new {n : Nat} {o : HO} (hs : n ≤ sizeLine) (h : ∀ p H2, New H H2 p o → Q (.ref p) H2) : KNew n H o Q := ⟨hs, fun p hp => h p _ (New.of hp)⟩
theorem w_dnew (h : ∀ p H2, New H H2 p (.dK []) → Q (.ref p) H2) : tDNewK σ H Q := fun p hp => h p _ (New.of hp)
/-- an attribute read -/
def KFld (K : PySem.W.Frag) (f : Str) (x : V) (H : Hp) (Q : VK) : Prop := ∃ a C dx fs v, x = .ref a ∧ H a = some (.ins C dx fs) ∧ Cls K C ∧ NoAttr K C f ∧ fs.lookup f = some v ∧ Q v H
theorem w_fld {f : Str} (h : ta σ H fun x H1 => KFld K f x H1 Q) : tFld K ta f σ H Q := h
theorem w_kfld {f : Str} {a C dx : Addr} {fs : List (Str × V)} (ho : H a = some (.ins C dx fs)) (c : Cls K C) (n : NoAttr K C f) (l : fs.lookup f = some v) (q : Q v H) : KFld K f (.ref a) H Q := ⟨a, C, dx, fs, v, rfl, ho, c, n, l, q⟩
/-- calls of built-ins -/
def CB (g : List V → Hp → VK → Prop) (vs : List V) (H : Hp) (Q : VK) : Prop := g vs H Q
theorem w_cb {g : List V → Hp → VK → Prop} (h : t σ H fun vs H1 => CB g vs H1 Q) : tCB g t σ H Q := h
/-- calls of defs -/
theorem w_call {sp : Sp} {E : XK} (h : t σ H fun vs H1 => sp vs H1 Q E) : tCall sp [] E t σ H Q := by
  show t σ H fun vs H1 => sp (vs ++ []) H1 Q E
  simpa only [List.append_nil] using h
theorem w_callD {sp : Sp} {E : XK} {dvs : List V} (h : t σ H fun vs H1 => sp (vs ++ dvs) H1 Q E) : tCall sp dvs E t σ H Q := h
/-- methods of lists, texts -/
def KBM (K : PySem.W.Frag) (T : String) (g : V → List V → Hp → VK → Prop) (t : TA) (σ : L2.St) (x : V) (H : Hp) (Q : VK) : Prop := tyV K T x H ∧ t σ H fun xs H2 => g x xs H2 Q
theorem w_bm {T : String} {g : V → List V → Hp → VK → Prop} (h : ta σ H fun x H1 => KBM K T g t σ x H1 Q) : tBM K T g ta t σ H Q := h
theorem w_kbm {T : String} {g : V → List V → Hp → VK → Prop} (ty : tyV K T x H) (h : t σ H fun xs H2 => g x xs H2 Q) : KBM K T g t σ x H Q := ⟨ty, h⟩
def KBM0 (K : PySem.W.Frag) (T : String) (g : V → List V → Hp → VK → Prop) (x : V) (H : Hp) (Q : VK) : Prop := tyV K T x H ∧ g x [] H Q
theorem w_bm0 {T : String} {g : V → List V → Hp → VK → Prop} (h : ta σ H fun x H1 => KBM0 K T g x H1 Q) : tBM0 K T g ta σ H Q := h
theorem w_kbm0 {T : String} {g : V → List V → Hp → VK → Prop} (ty : tyV K T x H) (h : g x [] H Q) : KBM0 K T g x H Q := ⟨ty, h⟩
theorem ty_list {p : Addr} {xs : List V} (h : SqL K H p xs) : tyV K "list" (.ref p) H := Or.inl ⟨rfl, _, h⟩
theorem w_append {l : Addr} {xs : List V} (h : H l = some (.lst xs)) (hz : xs.length < sizeLine) (q : ∀ H2, Chg H H2 l (.lst (xs ++ [y])) → Q .non H2) : rAppend (.ref l) [y] H Q := ⟨l, xs, y, rfl, rfl, h, hz, q _ Chg.of⟩
theorem w_popAt {l : Addr} {xs : List V} {n : Nat} (h : H l = some (.lst xs)) (hn : n < xs.length) (hb : n < 2 ^ 62) (hv : xs[n]? = some y) (q : ∀ H2, Chg H H2 l (.lst (xs.eraseIdx n)) → Q y H2) : rPopAt (.ref l) [.int (n : Int)] H Q :=
  ⟨l, xs, (n : Int), n, y, rfl, rfl, h, by omega, by omega, by rw [seqIndex_of (by omega) (by omega)]; simp, hv, q _ Chg.of⟩
/-- items -/
theorem w_ixL {p : Addr} {xs : List V} (h : SqL K H p xs) (ha : atI xs i = some v) (q : Q v H) : rIxL K (.ref p) (.int i) H Q := ⟨p, xs, i, v, rfl, rfl, h, ha, q⟩
theorem w_ixT {p : Addr} {xs : List V} (h : SqT K H p xs) (ha : atI xs i = some v) (q : Q v H) : rIxT K (.ref p) (.int i) H Q := ⟨p, xs, i, v, rfl, rfl, h, ha, q⟩
theorem w_ixS {z : Str} {c : Nat} (hz : z.length ≤ sizeLine) (ha : atI z.cps.toList i = some c) (q : Q (.str ⟨#[c]⟩) H) : rIxS (.str z) (.int i) H Q := ⟨z, i, c, rfl, rfl, hz, ha, q⟩
theorem w_setI {p : Addr} {xs : List V} {n : Nat} {P : Hp → Prop} (h : H p = some (.lst xs)) (hn : ixN xs.length i = some n) (q : ∀ H2, Chg H H2 p (.lst (xs.set n v)) → P H2) : rSetL (.ref p) (.int i) v H P := ⟨p, xs, i, n, rfl, rfl, h, hn, q _ Chg.of⟩
theorem w_gsub {t0 t1 : TE} {ts : TSet} {P : L2.St → Hp → Prop} (h : t0 σ H fun o H1 => t1 σ H1 fun i H2 => ts o i v H2 fun H3 => P σ H3) : gSub t0 t1 ts v σ H P := h
theorem w_aug {n : Nat} {ti : TIp} (hx : σ[n]? = some (some x)) (h : te σ H fun y H1 => ti x y H1 fun z H2 => D.nx (σ.set n (some z)) H2) : tAug n te ti D σ H := ⟨x, hx, h⟩
theorem w_augS {t0 t1 : TE} {tg : V → V → Hp → VK → Prop} {ti : TIp} {ts : TSet} (h : t0 σ H fun o H1 => t1 σ H1 fun i H2 => tg o i H2 fun x H3 => te σ H3 fun y H4 => ti x y H4 fun z H5 => ts o i z H5 fun H6 => D.nx σ H6) : tAugS t0 t1 te tg ti ts D σ H := h
theorem w_ipI {f : Int → Int → Int} (q : Q (.int (f i j)) H) : ipI f (.int i) (.int j) H Q := ⟨i, j, rfl, rfl, q⟩
theorem w_ixAny {p : Addr} {xs : List V} (h : SqL K H p xs ∨ SqT K H p xs) (ha : atI xs i = some v) (q : Q v H) : rIx K (.ref p) (.int i) H Q := by
  rcases h with h | h
  · exact .inl (w_ixL h ha q)
  · exact .inr (.inl (w_ixT h ha q))
theorem w_ixAnyS {z : Str} {c : Nat} (hz : z.length ≤ sizeLine) (ha : atI z.cps.toList i = some c) (q : Q (.str ⟨#[c]⟩) H) : rIx K (.str z) (.int i) H Q := .inr (.inr (w_ixS hz ha q))
/-- ways -/
theorem w_ite {p : Prop} [Decidable p] {A B : Prop} (h1 : p → A) (h2 : ¬ p → B) : if decide p = true then A else B := by
  by_cases h : p
  · rw [decide_eq_true h]; exact h1 h
  · rw [decide_eq_false h]; exact h2 h
theorem w_iteN {p : Prop} [Decidable p] {A B : Prop} (h1 : ¬ p → A) (h2 : p → B) : if (!decide p) = true then A else B := by
  by_cases h : p
  · rw [decide_eq_true h]; exact h2 h
  · rw [decide_eq_false h]; exact h1 h
theorem w_iteT {p : Prop} [Decidable p] {A B : Prop} (hp : p) (h : A) : if decide p = true then A else B := by rw [decide_eq_true hp]; exact h
theorem w_iteF {p : Prop} [Decidable p] {A B : Prop} (hp : ¬ p) (h : B) : if decide p = true then A else B := by rw [decide_eq_false hp]; exact h
theorem w_iteNT {p : Prop} [Decidable p] {A B : Prop} (hp : ¬ p) (h : A) : if (!decide p) = true then A else B := by rw [decide_eq_false hp]; exact h
theorem w_iteNF {p : Prop} [Decidable p] {A B : Prop} (hp : p) (h : B) : if (!decide p) = true then A else B := by rw [decide_eq_true hp]; exact h
theorem w_true {A B : Prop} (h : A) : if true = true then A else B := h
theorem w_false {A B : Prop} (h : B) : if false = true then A else B := h
theorem w_ntrue {A B : Prop} (h : B) : if (!true) = true then A else B := h
theorem w_nfalse {A B : Prop} (h : A) : if (!false) = true then A else B := h
end
theorem w_cut {u1 u2 : TS} {D : Ends} {σ : L2.St} {H : Hp} (Mid : L2.St → Hp → Prop) (h1 : u1 { D with nx := Mid } σ H) (h2 : ∀ σ' H', Mid σ' H' → u2 D σ' H') : C8.tCut u1 u2 D σ H := ⟨Mid, h1, h2⟩
theorem log2_lt {m : Int} (h0 : 0 < m) (h1 : m ≤ 4611686018427387904) : CDivW 0 m := ⟨h0, by
  have h : m.natAbs < 2 ^ 63 := by omega
  have := Nat.log2_lt (n := m.natAbs) (k := 63) (by omega)
  omega⟩
theorem item_int {ns : List Int} {i : Nat} {y : V} (h : (ns.map V.int)[i]? = some y) : ∃ n, y = V.int n := by
  rw [List.getElem?_map] at h
  cases e : ns[i]? with
  | none => rw [e] at h; cases h
  | some n => rw [e] at h; exact ⟨n, (Option.some.inj h).symm⟩
theorem atI_ints {ns : List Int} {i : Int} (h0 : 0 ≤ i) (h1 : i < ns.length) : ∃ n, n ∈ ns ∧ atI (ns.map V.int) i = some (V.int n) := by
  obtain ⟨j, rfl⟩ := Int.eq_ofNat_of_zero_le h0
  have hj : j < ns.length := by omega
  exact ⟨ns[j], List.getElem_mem hj, atI_nat (by rw [List.getElem?_map, List.getElem?_eq_getElem hj]; rfl)⟩
/-! ### what kind a value is of -/
section
variable {K : PySem.W.Frag} {H : Hp} {Q : VK} {x : V}
theorem w_isN (q : Q (.bl (decide (x = .non))) H) : rIsN x .non H Q := ⟨rfl, q⟩
theorem w_notN (q : Q (.bl (!decide (x = .non))) H) : rNotN x .non H Q := ⟨rfl, q⟩
theorem c_isi {t T : String} {b : Bool} (ty : TyX K H x (.type t)) (h : kitB t T = some b) (q : Q (.bl b) H) : CB (rIsi K) [x, .ty T] H Q := ⟨x, .ty T, .type t, .type T, b, rfl, .ty T, ty, kit_ty h, q⟩
theorem ty_non : TyX K H .non (.type "NoneType") := .base .non
theorem ty_bl {b : Bool} : TyX K H (.bl b) (.type "bool") := .base (.bl b)
theorem ty_int {i : Int} : TyX K H (.int i) (.type "int") := .base (.int i)
theorem ty_str {z : Str} : TyX K H (.str z) (.type "str") := .base (.str z)
theorem ty_L {a : Addr} {xs : List V} (h : SqL K H a xs) : TyX K H (.ref a) (.type "list") := by
  rcases h with (h | ⟨o, h⟩) | ⟨o, its, n, h1, h2, _⟩
  · exact .base (.lst h)
  · exact .base (.frz h)
  · exact .kList h1 h2
theorem ty_T {a : Addr} {xs : List V} (h : SqT K H a xs) : TyX K H (.ref a) (.type "tuple") := by
  rcases h with (h | ⟨o, h⟩) | ⟨o, its, n, h1, h2, _⟩
  · exact .base (.tup h)
  · exact .fTuple h
  · exact .kTuple h1 h2
theorem k_nn : kitB "NoneType" "bool" = some false := by decide +kernel
theorem k_bb : kitB "bool" "bool" = some true := by decide +kernel
theorem k_bi : kitB "bool" "int" = some true := by decide +kernel
theorem k_ib : kitB "int" "bool" = some false := by decide +kernel
theorem k_ii : kitB "int" "int" = some true := by decide +kernel
theorem k_is : kitB "int" "str" = some false := by decide +kernel
theorem k_il : kitB "int" "list" = some false := by decide +kernel
theorem k_it : kitB "int" "tuple" = some false := by decide +kernel
theorem k_bs : kitB "bool" "str" = some false := by decide +kernel
theorem k_bl : kitB "bool" "list" = some false := by decide +kernel
theorem k_bt : kitB "bool" "tuple" = some false := by decide +kernel
theorem k_sb : kitB "str" "bool" = some false := by decide +kernel
theorem k_si : kitB "str" "int" = some false := by decide +kernel
theorem k_ss : kitB "str" "str" = some true := by decide +kernel
theorem k_sl : kitB "str" "list" = some false := by decide +kernel
theorem k_st : kitB "str" "tuple" = some false := by decide +kernel
theorem k_lb : kitB "list" "bool" = some false := by decide +kernel
theorem k_li : kitB "list" "int" = some false := by decide +kernel
theorem k_ls : kitB "list" "str" = some false := by decide +kernel
theorem k_ll : kitB "list" "list" = some true := by decide +kernel
theorem k_lt : kitB "list" "tuple" = some false := by decide +kernel
theorem k_tb : kitB "tuple" "bool" = some false := by decide +kernel
theorem k_ti : kitB "tuple" "int" = some false := by decide +kernel
theorem k_ts : kitB "tuple" "str" = some false := by decide +kernel
theorem k_tl : kitB "tuple" "list" = some false := by decide +kernel
theorem k_tt : kitB "tuple" "tuple" = some true := by decide +kernel
theorem k_ni : kitB "NoneType" "int" = some false := by decide +kernel
theorem k_ns : kitB "NoneType" "str" = some false := by decide +kernel
theorem k_nl : kitB "NoneType" "list" = some false := by decide +kernel
theorem k_nt : kitB "NoneType" "tuple" = some false := by decide +kernel
end
/-! ### data -/
/-- what is no list and no tuple -/
inductive Sc : V → PyData → Prop where
  | non : Sc .non .none
  | bl (b : Bool) : Sc (.bl b) (.bool b)
  | int (i : Int) : Sc (.int i) (.int i)
  | str (x : Str) : Sc (.str x) (.str x)
/-- v is the datum d, lists and tuples nested at most n deep, none of them in S -/
def Dn (K : PySem.W.Frag) (S : List Addr) (H : Hp) : Nat → V → PyData → Prop
  | 0, v, d => Sc v d
  | n + 1, v, d => Sc v d ∨ (∃ a xs ds, v = .ref a ∧ d = .list ds ∧ a ∉ S ∧ SqL K H a xs ∧ xs.length ≤ 100000 ∧ Paired (Dn K S H n) xs ds) ∨
      (∃ a xs ds, v = .ref a ∧ d = .tuple ds ∧ a ∉ S ∧ SqT K H a xs ∧ xs.length ≤ 100000 ∧ Paired (Dn K S H n) xs ds)
section
variable {K : PySem.W.Frag} {S S' : List Addr} {H H' : Hp}
theorem Dn.sc {v : V} {d : PyData} (h : Sc v d) : ∀ {n : Nat}, Dn K S H n v d
  | 0 => h
  | _ + 1 => .inl h
theorem Dn.upt (u : Upt S' H H') (hs : ∀ a ∈ S', a ∈ S) : ∀ {n : Nat} {v : V} {d : PyData}, Dn K S H n v d → Dn K S H' n v d
  | 0, _, _, h => h
  | n + 1, v, d, h => by
    rcases h with h | ⟨a, xs, ds, e1, e2, ha, hq, hl, p⟩ | ⟨a, xs, ds, e1, e2, ha, hq, hl, p⟩
    · exact .inl h
    · exact .inr (.inl ⟨a, xs, ds, e1, e2, ha, u.seqL (fun z => ha (hs a z)) hq, hl, Paired.mapP p fun x y q => Dn.upt u hs q⟩)
    · exact .inr (.inr ⟨a, xs, ds, e1, e2, ha, u.seqT (fun z => ha (hs a z)) hq, hl, Paired.mapP p fun x y q => Dn.upt u hs q⟩)
theorem Dn.weak (hs : ∀ a ∈ S', a ∈ S) : ∀ {n : Nat} {v : V} {d : PyData}, Dn K S H n v d → Dn K S' H n v d
  | 0, _, _, h => h
  | n + 1, v, d, h => by
    rcases h with h | ⟨a, xs, ds, e1, e2, ha, hq, hl, p⟩ | ⟨a, xs, ds, e1, e2, ha, hq, hl, p⟩
    · exact .inl h
    · exact .inr (.inl ⟨a, xs, ds, e1, e2, fun z => ha (hs a z), hq, hl, Paired.mapP p fun x y q => Dn.weak hs q⟩)
    · exact .inr (.inr ⟨a, xs, ds, e1, e2, fun z => ha (hs a z), hq, hl, Paired.mapP p fun x y q => Dn.weak hs q⟩)
theorem Dn.up : ∀ {n m : Nat} {v : V} {d : PyData}, n ≤ m → Dn K S H n v d → Dn K S H m v d
  | 0, 0, _, _, _, h => h
  | 0, _ + 1, _, _, _, h => .inl h
  | n + 1, 0, _, _, l, _ => absurd l (by omega)
  | n + 1, m + 1, v, d, l, h => by
    rcases h with h | ⟨a, xs, ds, e1, e2, ha, hq, hl, p⟩ | ⟨a, xs, ds, e1, e2, ha, hq, hl, p⟩
    · exact .inl h
    · exact .inr (.inl ⟨a, xs, ds, e1, e2, ha, hq, hl, Paired.mapP p fun x y q => Dn.up (by omega) q⟩)
    · exact .inr (.inr ⟨a, xs, ds, e1, e2, ha, hq, hl, Paired.mapP p fun x y q => Dn.up (by omega) q⟩)
theorem Dn.tup {n : Nat} {a : Addr} {xs : List V} {ds : List PyData} (h : SqT K H a xs) (ha : a ∉ S) (hl : xs.length ≤ 100000) (p : Paired (Dn K S H n) xs ds) : Dn K S H (n + 1) (.ref a) (.tuple ds) := .inr (.inr ⟨a, xs, ds, rfl, rfl, ha, h, hl, p⟩)
theorem Dn.lst {n : Nat} {a : Addr} {xs : List V} {ds : List PyData} (h : SqL K H a xs) (ha : a ∉ S) (hl : xs.length ≤ 100000) (p : Paired (Dn K S H n) xs ds) : Dn K S H (n + 1) (.ref a) (.list ds) := .inr (.inl ⟨a, xs, ds, rfl, rfl, ha, h, hl, p⟩)
theorem Dn.int {n : Nat} {i : Int} : Dn K S H n (.int i) (.int i) := .sc (.int i)
theorem Dn.str {n : Nat} {z : Str} : Dn K S H n (.str z) (.str z) := .sc (.str z)
theorem Dn.non {n : Nat} : Dn K S H n .non .none := .sc .non
theorem Dn.bl {n : Nat} {b : Bool} : Dn K S H n (.bl b) (.bool b) := .sc (.bl b)
theorem Dn.ints {n : Nat} : ∀ {ns : List Int}, Paired (Dn K S H n) (ns.map V.int) (ns.map PyData.int)
  | [] => .nil
  | _ :: _ => .cons Dn.int Dn.ints
end
theorem paired_at {α β : Type} {F : α → β → Prop} : ∀ {xs : List α} {ys : List β} {i : Nat} {x : α}, Paired F xs ys → xs[i]? = some x → ∃ y, ys[i]? = some y ∧ F x y
  | _, _, _, _, .nil, e => by simp at e
  | _, _, 0, _, .cons r _, e => by simp at e; subst e; exact ⟨_, rfl, r⟩
  | _, _, i + 1, x, .cons _ t, e => by
    obtain ⟨u, h1, h2⟩ := paired_at (i := i) (x := x) t (by simpa using e)
    exact ⟨u, by simpa using h1, h2⟩
/-! ### loops -/
section
variable {K : PySem.W.Frag} {σ : L2.St} {H : Hp} {Q : VK} {tl : TE} {ta : TA} {tb : TS} {D : Ends} {g : TG}
/-- the loop's own part of a for over J -/
def KFor (J : It) (g : TG) (tb : TS) (D : Ends) (σ : L2.St) (H : Hp) : Prop := ∃ W : Nat → Nat → L2.St → Hp → Prop, (∃ m, W 0 m σ H) ∧ ∀ i m σ H, W i m σ H →
  (J.stop i H ∧ D.nx σ H) ∨ (J.go i H ∧ ∃ N : L2.St → Hp → Prop, (∀ σ' H', N σ' H' → ∃ m', m' < m ∧ W (i + 1) m' σ' H') ∧ ∀ x H', J.yld i H x H' → g x σ H' fun σ2 H2 => tb { D with nx := N, ct := N, bk := D.nx } σ2 H2)
def KForL (K : PySem.W.Frag) (g : TG) (tb : TS) (D : Ends) (σ : L2.St) (x : V) (H : Hp) : Prop := ∃ a, x = .ref a ∧ (∃ xs, SqL K H a xs) ∧ KFor (Itl K a) g tb D σ H
def KForT (K : PySem.W.Frag) (g : TG) (tb : TS) (D : Ends) (σ : L2.St) (x : V) (H : Hp) : Prop := ∃ a, x = .ref a ∧ (∃ xs, SqT K H a xs) ∧ KFor (Itt K a) g tb D σ H
def KForS (g : TG) (tb : TS) (D : Ends) (σ : L2.St) (v : V) (H : Hp) : Prop := ∃ x, v = .str x ∧ KFor (Its x) g tb D σ H
def KForR (g : TG) (tb : TS) (D : Ends) (σ : L2.St) (vs : List V) (H : Hp) : Prop := ∃ j : Int, vs = [.int j] ∧ -(2 ^ 62) ≤ j ∧ j < 2 ^ 62 ∧ KFor (Itr 0 j.toNat) g tb D σ H
theorem w_forL (h : tl σ H fun x H1 => KForL K g tb D σ x H1) : tFor (iList K tl) g tb D σ H := h
theorem w_forT (h : tl σ H fun x H1 => KForT K g tb D σ x H1) : tFor (iTup K tl) g tb D σ H := h
theorem w_forS (h : tl σ H fun x H1 => KForS g tb D σ x H1) : tFor (iStr tl) g tb D σ H := h
theorem w_forR (h : ta σ H fun vs H1 => KForR g tb D σ vs H1) : tFor (iRng1 ta) g tb D σ H := h
theorem l_list {a : Addr} {xs : List V} {n : Nat} (h : SqL K H a xs) (Pv : Nat → L2.St → Hp → Prop) (h0 : Pv 0 σ H) (hl : ∀ i σ H, i ≤ xs.length → Pv i σ H → SqL K H a xs)
    (hs : ∀ i y σ H, xs[i]? = some y → Pv i σ H → tb { D with nx := Pv (i + 1), ct := Pv (i + 1), bk := D.nx } (σ.set n (some y)) H) (hd : ∀ σ H, Pv xs.length σ H → D.nx σ H) : KForL K (gName n) tb D σ (.ref a) H :=
  ⟨a, rfl, ⟨xs, h⟩, for_list (K := K) (a := a) (xs := xs) Pv h0 hl hs hd⟩
theorem l_tup {a : Addr} {xs : List V} {n : Nat} (h : SqT K H a xs) (Pv : Nat → L2.St → Hp → Prop) (h0 : Pv 0 σ H) (hl : ∀ i σ H, i ≤ xs.length → Pv i σ H → SqT K H a xs)
    (hs : ∀ i y σ H, xs[i]? = some y → Pv i σ H → tb { D with nx := Pv (i + 1), ct := Pv (i + 1), bk := D.nx } (σ.set n (some y)) H) (hd : ∀ σ H, Pv xs.length σ H → D.nx σ H) : KForT K (gName n) tb D σ (.ref a) H :=
  ⟨a, rfl, ⟨xs, h⟩, for_tup (K := K) (a := a) (xs := xs) Pv h0 hl hs hd⟩
theorem l_range {j : Int} {n m : Nat} (hj : j = (m : Int)) (hb : m ≤ 1000000) (Pv : Nat → L2.St → Hp → Prop) (h0 : Pv 0 σ H)
    (hs : ∀ (i : Nat) σ H, i < m → Pv i σ H → tb { D with nx := Pv (i + 1), ct := Pv (i + 1), bk := D.nx } (σ.set n (some (.int (i : Int)))) H) (hd : ∀ σ H, Pv m σ H → D.nx σ H) : KForR (gName n) tb D σ [.int j] H := by
  subst hj
  refine ⟨(m : Int), rfl, by omega, by omega, ?_⟩
  have e : ((m : Int)).toNat = m := by simp
  rw [e]
  refine for_range (lo := 0) (n := m) Pv h0 (fun i σ H hi p => ?_) hd
  have z : (0 : Int) + (i : Int) = (i : Int) := Int.zero_add _
  show tb _ (σ.set n (some (.int ((0 : Int) + (i : Int))))) H
  rw [z]
  exact hs i σ H hi p
theorem l_str {z : Str} {n : Nat} (Pv : Nat → L2.St → Hp → Prop) (h0 : Pv 0 σ H)
    (hs : ∀ (i c : Nat) σ H, z.cps.toList[i]? = some c → Pv i σ H → tb { D with nx := Pv (i + 1), ct := Pv (i + 1), bk := D.nx } (σ.set n (some (.str ⟨#[c]⟩))) H) (hd : ∀ σ H, Pv z.cps.toList.length σ H → D.nx σ H) : KForS (gName n) tb D σ (.str z) H := by
  have el : z.cps.toList.length = z.cps.size := by simp
  refine ⟨z, rfl, fun i m σ H => m = z.cps.size - i ∧ i ≤ z.cps.size ∧ Pv i σ H, ⟨z.cps.size, by simp, Nat.zero_le _, h0⟩, ?_⟩
  rintro i m σ H ⟨rfl, hi, p⟩
  by_cases hlt : i < z.cps.size
  · refine .inr ⟨hlt, Pv (i + 1), fun σ' H' p' => ⟨z.cps.size - (i + 1), by omega, rfl, hlt, p'⟩, fun x H' y => ?_⟩
    obtain ⟨e, c, hc, ev⟩ := y
    subst e
    subst ev
    exact hs i c σ H' (by rw [Array.getElem?_toList]; exact hc) p
  · have e2 : i = z.cps.size := by omega
    subst e2
    exact .inl ⟨Nat.le_refl _, hd _ _ (by rw [el]; exact p)⟩
/-! comprehensions -/
def KLc (J : It) (g : TG) (tt : TT) (te : TE) (vs : List Nat) (σ : L2.St) (H1 : Hp) (Q : VK) : Prop := ∀ D, H1 D = none → ∃ W : Nat → Nat → Hp → Prop, (∃ m, W 0 m (upd H1 D (.lst []))) ∧ ∀ i m H, W i m H →
  (J.stop i H ∧ Q (.ref D) H) ∨ (J.go i H ∧ ∃ Nx : Hp → Prop, (∀ H', Nx H' → ∃ m', m' < m ∧ W (i + 1) m' H') ∧ ∀ x H', J.yld i H x H' → g x (wipe σ vs) H' fun σ2 H2 => wipe σ2 vs = wipe σ vs ∧ tt σ2 H2 fun b H3 =>
    if b = true then te σ2 H3 fun y H4 => ∃ acc, H4 D = some (.lst acc) ∧ acc.length < sizeLine ∧ Nx (upd H4 D (.lst (acc ++ [y]))) else Nx H3)
def KLcR (g : TG) (tt : TT) (te : TE) (us : List Nat) (σ : L2.St) (Q : VK) (vs : List V) (H : Hp) : Prop := ∃ j : Int, vs = [.int j] ∧ -(2 ^ 62) ≤ j ∧ j < 2 ^ 62 ∧ KLc (Itr 0 j.toNat) g tt te us σ H Q
def KLcL (K : PySem.W.Frag) (g : TG) (tt : TT) (te : TE) (us : List Nat) (σ : L2.St) (Q : VK) (x : V) (H : Hp) : Prop := ∃ a, x = .ref a ∧ (∃ xs, SqL K H a xs) ∧ KLc (Itl K a) g tt te us σ H Q
def KLcT (K : PySem.W.Frag) (g : TG) (tt : TT) (te : TE) (us : List Nat) (σ : L2.St) (Q : VK) (x : V) (H : Hp) : Prop := ∃ a, x = .ref a ∧ (∃ xs, SqT K H a xs) ∧ KLc (Itt K a) g tt te us σ H Q
variable {tt : TT} {te : TE} {us : List Nat}
theorem w_lcR (h : ta σ H fun vs H1 => KLcR g tt te us σ Q vs H1) : tLc (iRng1 ta) g tt te us σ H Q := h
theorem w_lcL (h : tl σ H fun x H1 => KLcL K g tt te us σ Q x H1) : tLc (iList K tl) g tt te us σ H Q := h
theorem w_lcT (h : tl σ H fun x H1 => KLcT K g tt te us σ Q x H1) : tLc (iTup K tl) g tt te us σ H Q := h
/-- what is made stands behind the list at D -/
def KApp (D : Addr) (P : Hp → Prop) (y : V) (H : Hp) : Prop := ∃ acc, H D = some (.lst acc) ∧ acc.length < sizeLine ∧ P (upd H D (.lst (acc ++ [y])))
theorem w_kapp {D : Addr} {P : Hp → Prop} {y : V} {acc : List V} (h : H D = some (.lst acc)) (hz : acc.length < sizeLine) (q : ∀ H5, Chg H H5 D (.lst (acc ++ [y])) → P H5) : KApp D P y H := ⟨acc, h, hz, q _ Chg.of⟩
/-- [e for k in range(m)] -/
theorem lc_R {j : Int} {n m : Nat} (hj : j = (m : Int)) (hb : m ≤ 1000000) (Pv : Nat → Addr → Hp → Prop) (h0 : ∀ D H1, New H H1 D (.lst []) → Pv 0 D H1)
    (hs : ∀ (i : Nat) D H, i < m → Pv i D H → te ((σ.set n none).set n (some (.int (i : Int)))) H (KApp D (Pv (i + 1) D)))
    (hd : ∀ D H, Pv m D H → Q (.ref D) H) : KLcR (gName n) tYes te [n] σ Q [.int j] H := by
  subst hj
  refine ⟨(m : Int), rfl, by omega, by omega, fun D hD => ?_⟩
  have e : ((m : Int)).toNat = m := by simp
  rw [e]
  refine lc_range (lo := 0) (n := m) (fun i H => Pv i D H) (h0 D _ (New.of hD)) (fun i H hi p => ?_) fun H p => hd D H p
  have z : (0 : Int) + (i : Int) = (i : Int) := Int.zero_add _
  refine ⟨?_, ?_⟩
  · show List.set (List.set (List.set σ n none) n (some (V.int ((0 : Int) + (i : Int))))) n none = List.set σ n none
    simp
  · show te (List.set (List.set σ n none) n (some (V.int ((0 : Int) + (i : Int))))) H (KApp D (Pv (i + 1) D))
    rw [z]
    exact hs i D H hi p
/-- [e for x in xs] -/
theorem lc_L {a : Addr} {xs : List V} {n : Nat} (h : SqL K H a xs) (Pv : Nat → Addr → Hp → Prop) (h0 : ∀ D H1, New H H1 D (.lst []) → Pv 0 D H1) (hl : ∀ i D H, i ≤ xs.length → Pv i D H → SqL K H a xs)
    (hs : ∀ (i : Nat) x D H, xs[i]? = some x → Pv i D H → te ((σ.set n none).set n (some x)) H (KApp D (Pv (i + 1) D)))
    (hd : ∀ D H, Pv xs.length D H → Q (.ref D) H) : KLcL K (gName n) tYes te [n] σ Q (.ref a) H := by
  refine ⟨a, rfl, ⟨xs, h⟩, fun D hD => ?_⟩
  refine lc_list (K := K) (a := a) (xs := xs) (fun i H => Pv i D H) (h0 D _ (New.of hD)) (fun i H hi p => hl i D H hi p) (fun i x H hi p => ?_) fun H p => hd D H p
  refine ⟨?_, ?_⟩
  · show List.set (List.set (List.set σ n none) n (some x)) n none = List.set σ n none
    simp
  · show te (List.set (List.set σ n none) n (some x)) H (KApp D (Pv (i + 1) D))
    exact hs i x D H hi p
theorem lc_T {a : Addr} {xs : List V} {n : Nat} (h : SqT K H a xs) (Pv : Nat → Addr → Hp → Prop) (h0 : ∀ D H1, New H H1 D (.lst []) → Pv 0 D H1) (hl : ∀ i D H, i ≤ xs.length → Pv i D H → SqT K H a xs)
    (hs : ∀ (i : Nat) x D H, xs[i]? = some x → Pv i D H → te ((σ.set n none).set n (some x)) H (KApp D (Pv (i + 1) D)))
    (hd : ∀ D H, Pv xs.length D H → Q (.ref D) H) : KLcT K (gName n) tYes te [n] σ Q (.ref a) H := by
  refine ⟨a, rfl, ⟨xs, h⟩, fun D hD => ?_⟩
  refine lc_tup (K := K) (a := a) (xs := xs) (fun i H => Pv i D H) (h0 D _ (New.of hD)) (fun i H hi p => hl i D H hi p) (fun i x H hi p => ?_) fun H p => hd D H p
  refine ⟨?_, ?_⟩
  · show List.set (List.set (List.set σ n none) n (some x)) n none = List.set σ n none
    simp
  · show te (List.set (List.set σ n none) n (some x)) H (KApp D (Pv (i + 1) D))
    exact hs i x D H hi p
end
/-! ### built-ins, by names -/
section
variable {K : PySem.W.Frag} {H : Hp} {Q : VK} {i j : Int} {v : V}
def rInt1 : List V → Hp → VK → Prop := fun xs H Q => (∃ i, xs = [.int i] ∧ Q (.int i) H) ∨ ∃ k, xs = [.bl k] ∧ Q (.int (if k then 1 else 0)) H
def rAbs : List V → Hp → VK → Prop := fun xs H Q => ∃ i, xs = [.int i] ∧ Q (.int (if i < 0 then -i else i)) H
def rMax2 : List V → Hp → VK → Prop := fun xs H Q => ∃ i j, xs = [.int i, .int j] ∧ Q (.int (if j > i then j else i)) H
def rMin2 : List V → Hp → VK → Prop := fun xs H Q => ∃ i j, xs = [.int i, .int j] ∧ Q (.int (if j < i then j else i)) H
def rListOf (K : PySem.W.Frag) : List V → Hp → VK → Prop := fun xs H Q => ∃ p ys, xs = [.ref p] ∧ (SqL K H p ys ∨ SqT K H p ys) ∧ ∀ l, H l = none → Q (.ref l) (upd H l (.lst ys))
def rTupOf (K : PySem.W.Frag) : List V → Hp → VK → Prop := fun xs H Q => ∃ p ys, xs = [.ref p] ∧ ((SqL K H p ys ∧ ∀ l, H l = none → Q (.ref l) (upd H l (.tup ys))) ∨ (SqT K H p ys ∧ Q (.ref p) H))
def rLenS (K : PySem.W.Frag) : List V → Hp → VK → Prop := fun xs H Q => ∃ p ys, xs = [.ref p] ∧ (SqL K H p ys ∨ SqT K H p ys) ∧ Q (.int ys.length) H
def rLenT : List V → Hp → VK → Prop := fun xs H Q => ∃ z, xs = [.str z] ∧ z.length ≤ sizeLine ∧ Q (.int z.length) H
variable {X : Cx}
theorem b_int : CallR X (.type "int") rInt1 := call_int1
theorem b_abs : CallR X (.builtin "abs") rAbs := call_abs
theorem b_max (hc : X.calm = true) : CallR X (.builtin "max") rMax2 := call_max2 hc
theorem b_min (hc : X.calm = true) : CallR X (.builtin "min") rMin2 := call_min2 hc
theorem b_list : CallR X (.type "list") (rListOf X.K) := call_list_of
theorem b_tuple : CallR X (.type "tuple") (rTupOf X.K) := call_tuple_of
theorem b_len : CallR X (.builtin "len") (rLenS X.K) := call_len_seq
theorem b_lenT : CallR X (.builtin "len") rLenT := call_len_str
theorem c_int (q : Q (.int i) H) : CB rInt1 [.int i] H Q := Or.inl ⟨i, rfl, q⟩
theorem c_intB {b : Bool} (q : Q (.int (if b then 1 else 0)) H) : CB rInt1 [.bl b] H Q := Or.inr ⟨b, rfl, q⟩
theorem c_abs (q : Q (.int (if i < 0 then -i else i)) H) : CB rAbs [.int i] H Q := ⟨i, rfl, q⟩
theorem c_max (q : Q (.int (if j > i then j else i)) H) : CB rMax2 [.int i, .int j] H Q := ⟨i, j, rfl, q⟩
theorem c_min (q : Q (.int (if j < i then j else i)) H) : CB rMin2 [.int i, .int j] H Q := ⟨i, j, rfl, q⟩
theorem c_listL {p : Addr} {ys : List V} (h : SqL K H p ys) (q : ∀ l H2, New H H2 l (.lst ys) → Q (.ref l) H2) : CB (rListOf K) [.ref p] H Q := ⟨p, ys, rfl, .inl h, fun l hl => q l _ (New.of hl)⟩
theorem c_listT {p : Addr} {ys : List V} (h : SqT K H p ys) (q : ∀ l H2, New H H2 l (.lst ys) → Q (.ref l) H2) : CB (rListOf K) [.ref p] H Q := ⟨p, ys, rfl, .inr h, fun l hl => q l _ (New.of hl)⟩
theorem c_tupL {p : Addr} {ys : List V} (h : SqL K H p ys) (q : ∀ l H2, New H H2 l (.tup ys) → Q (.ref l) H2) : CB (rTupOf K) [.ref p] H Q := ⟨p, ys, rfl, .inl ⟨h, fun l hl => q l _ (New.of hl)⟩⟩
theorem c_lenL {p : Addr} {ys : List V} (h : SqL K H p ys) (q : Q (.int (ys.length : Int)) H) : CB (rLenS K) [.ref p] H Q := ⟨p, ys, rfl, .inl h, q⟩
theorem c_lenT {p : Addr} {ys : List V} (h : SqT K H p ys) (q : Q (.int (ys.length : Int)) H) : CB (rLenS K) [.ref p] H Q := ⟨p, ys, rfl, .inr h, q⟩
theorem c_lenA {p : Addr} {ys : List V} (h : SqL K H p ys ∨ SqT K H p ys) (q : Q (.int (ys.length : Int)) H) : CB (rLenS K) [.ref p] H Q := ⟨p, ys, rfl, h, q⟩
theorem c_lenS {z : Str} (h : z.length ≤ sizeLine) (q : Q (.int (z.length : Int)) H) : CB rLenT [.str z] H Q := ⟨z, rfl, h, q⟩
end
end Wk
set_option Elab.async false
set_option linter.all false
set_option maxRecDepth 100000
set_option maxHeartbeats 4000000
/-! Wk: small defs without effects, walked in any surroundings (for what a generator expression calls). -/
namespace Wk
open PySem PySem.Spec PyProof.Rows L2
abbrev Pins := List (Addr × Obj)
/-- the frame's names hold vals, what the top left stands, and the pinned objects too -/
structure RS (base : Heap) (env : Env) (vals : List (Str × V)) (G : Pins) (m : Str → Option Value) (s : Shared) : Prop where
  hb : ∀ b o, base.get? b = some o → s.heap.get? b = some o
  hn : s.heap.Ns env.locals m
  hm : ∀ p ∈ vals, ∃ u, m p.1 = some u ∧ RelV p.2 u
  hG : ∀ q ∈ G, s.heap.get? q.1 = some q.2
/-- the expression e gives v and keeps all that stands -/
def RE (prog : Program) (w : World) (base : Heap) (D : Nat) (env : Env) (vals : List (Str × V)) (G : Pins) (e : Expr) (v : V) : Prop :=
  ∀ (A : Around) (E : Value → Shared → Prop) (s : Shared) (m : Str → Option Value), A.handled = none → A.depth ≤ D → RS base env vals G m s → wpAny (model prog w) A (eval e env) (fun y s' => RelV v y ∧ Keeps s s') E s
/-- arguments -/
def RA (prog : Program) (w : World) (base : Heap) (D : Nat) (env : Env) (vals : List (Str × V)) (G : Pins) (es : List Expr) (vs : List V) : Prop :=
  ∀ (pos : Pos) (A : Around) (E : Value → Shared → Prop) (s : Shared) (m : Str → Option Value), A.handled = none → A.depth ≤ D → RS base env vals G m s → wpAny (model prog w) A (spliced (backTo pos (starEach es env))) (fun us s' => Vals vs us ∧ Keeps s s') E s
/-- the def at f hands back v for vs -/
def RF (prog : Program) (w : World) (base : Heap) (D : Nat) (f : Addr) (vs : List V) (G : Pins) (v : V) : Prop :=
  ∀ (A : Around) (s : Shared) (us : List Value), A.handled = none → A.depth ≤ D → (∀ b o, base.get? b = some o → s.heap.get? b = some o) → Vals vs us → (∀ q ∈ G, s.heap.get? q.1 = some q.2) →
    codeAny (model prog w) A (.call (.ref f) ⟨us, []⟩) (fun r s' => ∃ u, r = .ok (.ret u) ∧ RelV v u ∧ Keeps s s') s
/-- what is known of a frame -/
structure RC (scope : Scope) (env : Env) : Prop where
  kind : env.scope.kind = .function
  sc : env.scope = scope
  glob : env.globals = mainGlobals
  blt : env.builtins = builtinsNs
theorem keeps_trans {s s1 s2 : Shared} (a : Keeps s s1) (b : Keeps s1 s2) : Keeps s s2 := by
  obtain ⟨h1, k1, rfl, e1⟩ := a
  obtain ⟨h2, k2, rfl, e2⟩ := b
  exact ⟨h2, k2, rfl, fun b o q => e2 b o (e1 b o q)⟩
theorem keeps_tok (s : Shared) (k : Nat) : Keeps s { s with toks := k } := ⟨s.heap, k, rfl, fun _ _ e => e⟩
theorem keeps_self (s : Shared) : Keeps s s := keeps_tok s s.toks
theorem keeps_get {s s' : Shared} (a : Keeps s s') : ∀ b o, s.heap.get? b = some o → s'.heap.get? b = some o := by
  obtain ⟨h1, k1, rfl, e1⟩ := a
  exact e1
/-- the kind of a value, with what is pinned -/
inductive KV (G : Pins) : V → String → Prop
  | non : KV G .non "NoneType"
  | bl {b} : KV G (.bl b) "bool"
  | int {i} : KV G (.int i) "int"
  | str {z} : KV G (.str z) "str"
  | lst {a o} : (a, o) ∈ G → o.cls = .type "list" → KV G (.ref a) "list"
  | tup {a o} : (a, o) ∈ G → o.cls = .type "tuple" → KV G (.ref a) "tuple"
  | dct {a o} : (a, o) ∈ G → o.cls = .type "dict" → KV G (.ref a) "dict"
section
variable {prog : Program} {w : World} {K : PySem.W.Frag} {mg : Str → Option Value} {base : Heap} {D : Nat} {env : Env} {scope : Scope} {vals : List (Str × V)} {G : Pins} {e e1 e2 e3 : Expr} {es : List Expr} {v : V} {vs : List V} {p p1 p2 pos : Pos}
theorem RS.on {m : Str → Option Value} {s s' : Shared} (r : RS base env vals G m s) (k : Keeps s s') : RS base env vals G m s' :=
  ⟨fun b o q => keeps_get k b o (r.hb b o q), r.hn.keeps (keeps_get k), r.hm, fun q hq => keeps_get k _ _ (r.hG q hq)⟩
theorem re_name {x : Str} (c : RC scope env) (hl : scope.names.lookup x = some .local) (hv : (x, v) ∈ vals) (hd : (x == ("__debug__" : Str)) = false := by decide) : RE prog w base D env vals G (.Name x p) v := by
  intro A E s m hA hD r
  obtain ⟨u, hu, q⟩ := r.hm _ hv
  exact wpAny_Name (wpAny_loadName_local c.kind (show env.scope.names.lookup x = some .local by rw [c.sc]; exact hl) r.hn hu ⟨q, keeps_self _⟩) hd
theorem re_int {i : Int} {j : Nat} : RE prog w base D env vals G (.Constant (.int i) j p) (.int i) := fun A E s m hA hD r => wpAny_Constant_int ⟨⟨_, rfl⟩, keeps_tok _ _⟩
theorem re_str {z : Str} {j : Nat} : RE prog w base D env vals G (.Constant (.str z) j p) (.str z) := fun A E s m hA hD r => Calls.Constant_str ⟨⟨_, rfl⟩, keeps_tok _ _⟩
theorem ld_g {x : Str} {u : Value} {A : Around} {E : Value → Shared → Prop} {s : Shared} {m : Str → Option Value} {Q : Value → Shared → Prop} (M : Mod K mg base) (c : RC scope env) (r : RS base env vals G m s) (hg : scope.names.lookup x = some .globalImplicit) (hm : mg x = some u) (q : Q u s) (hd : (x == ("__debug__" : Str)) = false := by decide) :
    wpAny (model prog w) A (eval (.Name x p) env) Q E s :=
  Calls.Name_function_global c.kind (show env.scope.names.lookup x = some .globalImplicit by rw [c.sc]; exact hg) (Calls.loadGlobal_global (by rw [c.glob]; exact M.glob.keeps r.hb) hm q) hd
theorem ld_b {x : Str} {u : Value} {A : Around} {E : Value → Shared → Prop} {s : Shared} {m : Str → Option Value} {Q : Value → Shared → Prop} (M : Mod K mg base) (c : RC scope env) (r : RS base env vals G m s) (hg : scope.names.lookup x = some .globalImplicit) (hm : mg x = none) (hv : bootBuiltins x = some u) (q : Q u s)
    (hn0 : x ≠ "__name__" := by decide) (hd : (x == ("__debug__" : Str)) = false := by decide) : wpAny (model prog w) A (eval (.Name x p) env) Q E s := by
  obtain ⟨mb, h1, h2⟩ := M.blt
  exact Calls.Name_function_global c.kind (show env.scope.names.lookup x = some .globalImplicit by rw [c.sc]; exact hg) (Calls.loadGlobal_builtin (by rw [c.glob]; exact M.glob.keeps r.hb) hm (by rw [c.blt]; exact h1.keeps r.hb) ((h2 x hn0).trans hv) q) hd
theorem re_glob {x : Str} {u : Value} (M : Mod K mg base) (c : RC scope env) (hg : scope.names.lookup x = some .globalImplicit) (hm : mg x = some u) (q : RelV v u) (hd : (x == ("__debug__" : Str)) = false := by decide) : RE prog w base D env vals G (.Name x p) v :=
  fun A E s m hA hD r => ld_g M c r hg hm ⟨q, keeps_self _⟩ hd
theorem re_blt {x : Str} {u : Value} (M : Mod K mg base) (c : RC scope env) (hg : scope.names.lookup x = some .globalImplicit) (hm : mg x = none) (hv : bootBuiltins x = some u) (q : RelV v u) (hn0 : x ≠ "__name__" := by decide) (hd : (x == ("__debug__" : Str)) = false := by decide) : RE prog w base D env vals G (.Name x p) v :=
  fun A E s m hA hD r => ld_b M c r hg hm hv ⟨q, keeps_self _⟩ hn0 hd
/-- a - b of whole numbers -/
theorem re_sub {i j : Int} (h1 : RE prog w base D env vals G e1 (.int i)) (h2 : RE prog w base D env vals G e2 (.int j)) : RE prog w base D env vals G (.BinOp e1 .Sub e2 p) (.int (i - j)) := by
  intro A E s m hA hD r
  refine wpAny_BinOp (thn (h1 A E s m hA hD r) fun y s1 ⟨r1, k1⟩ => ?_)
  refine thn (h2 A E s1 m hA hD (r.on k1)) fun z s2 ⟨r2, k2⟩ => ?_
  obtain ⟨t, rfl⟩ := r1
  obtain ⟨t', rfl⟩ := r2
  exact sub_int ⟨⟨_, rfl⟩, keeps_trans (keeps_trans k1 k2) (keeps_tok _ _)⟩
/-- a and b, of truth values; a false one ends it -/
theorem re_andF {rest : List Expr} (h1 : RE prog w base D env vals G e1 (.bl false)) : RE prog w base D env vals G (.BoolOp .And (e1 :: e2 :: rest) p) (.bl false) := by
  intro A E s m hA hD r
  refine BoolOp_and (thn (h1 A E s m hA hD r) fun y s1 ⟨r1, k1⟩ => ?_)
  cases r1
  exact wpAny_truthy_bool ⟨rfl, k1⟩
theorem re_andT {b : Bool} (h1 : RE prog w base D env vals G e1 (.bl true)) (h2 : RE prog w base D env vals G e2 (.bl b)) : RE prog w base D env vals G (.BoolOp .And [e1, e2] p) (.bl b) := by
  intro A E s m hA hD r
  refine BoolOp_and (thn (h1 A E s m hA hD r) fun y s1 ⟨r1, k1⟩ => ?_)
  cases r1
  refine wpAny_truthy_bool ?_
  refine BoolOp_one (thn (h2 A E s1 m hA hD (r.on k1)) fun z s2 ⟨r2, k2⟩ => ⟨r2, keeps_trans k1 k2⟩)
theorem re_not {b : Bool} (h1 : RE prog w base D env vals G e1 (.bl b)) : RE prog w base D env vals G (.UnaryOp .Not e1 p) (.bl (!b)) := by
  intro A E s m hA hD r
  refine UnaryOp_ (thn (h1 A E s m hA hD r) fun y s1 ⟨r1, k1⟩ => ?_)
  cases r1
  exact not_of (wpAny_truthy_bool ⟨rfl, k1⟩)
/-- i <= x <= j -/
theorem re_chain {i x j : Int} (h1 : RE prog w base D env vals G e1 (.int i)) (h2 : RE prog w base D env vals G e2 (.int x)) (h3 : RE prog w base D env vals G e3 (.int j)) (hm : lastMarks [.LtE, .LtE] [e2, e3] = false := by with_unfolding_all rfl) :
    RE prog w base D env vals G (.Compare e1 [.LtE, .LtE] [e2, e3] p) (.bl (decide (i ≤ x ∧ x ≤ j))) := by
  intro A E s m hA hD r
  refine Compare_chain (thn (h1 A E s m hA hD r) fun y s1 ⟨r1, k1⟩ => chain_link (thn (h2 A E s1 m hA hD (r.on k1)) fun z s2 ⟨r2, k2⟩ => ?_)) hm
  obtain ⟨t, rfl⟩ := r1
  obtain ⟨t', rfl⟩ := r2
  refine PyProof.Rows.le_int (wpAny_truthy_bool ?_)
  by_cases hi : i ≤ x
  · rw [decide_eq_true hi]
    refine ite_tt (chain_last (thn (h3 A E s2 m hA hD ((r.on k1).on k2)) fun z3 s3 ⟨r3, k3⟩ => ?_))
    obtain ⟨t3, rfl⟩ := r3
    refine PyProof.Rows.le_int ⟨?_, keeps_trans (keeps_trans k1 k2) k3⟩
    show Value.bool _ = Value.bool _
    simp [hi]
  · rw [decide_eq_false hi]
    refine ite_ff ⟨?_, keeps_trans k1 k2⟩
    show Value.bool _ = Value.bool _
    simp [hi]
theorem ra_nil : RA prog w base D env vals G [] [] := fun _ _ _ _ _ _ _ _ => Calls.spliced_nil ⟨.nil, keeps_self _⟩
theorem ra_cons (h1 : RE prog w base D env vals G e v) (h2 : RA prog w base D env vals G es vs) (hs : starEach (e :: es) env = (false, eval e env) :: starEach es env := by rfl) : RA prog w base D env vals G (e :: es) (v :: vs) := by
  intro pos A E s m hA hD r
  rw [hs]
  show wpAny _ _ (spliced ((false, eval e env) :: backTo pos (starEach es env))) _ _ s
  refine Calls.spliced_cons (thn (h1 A E s m hA hD r) fun u s1 ⟨r1, k1⟩ => ?_)
  exact thn (h2 pos A E s1 m hA hD (r.on k1)) fun us s2 ⟨r2, k2⟩ => ⟨.cons r1 r2, keeps_trans k1 k2⟩
/-- f(e, ..), f an own def -/
theorem re_call {x : Str} {f : Addr} (M : Mod K mg base) (c : RC scope env) (hg : scope.names.lookup x = some .globalImplicit) (hm : mg x = some (.ref f)) (hk : PySem.W.keepIn K (.ref f) = true) (F : RF prog w base D f vs G v)
    (ha : RA prog w base D env vals G (e :: es) vs) (hdb : (x == ("__debug__" : Str)) = false := by decide) (he : starEach (e :: es) env = (false, eval e env) :: starEach es env := by rfl) (hpl : (backTo pos (starEach es env)).any (·.1) = false := by rfl) :
    RE prog w base D env vals G (.Call (.Name x p) (e :: es) [] pos) v := by
  intro A E s m hA hD r
  refine wpAny_Call_Name_kw (ld_g M c r hg hm ?_ hdb)
  refine PySem.W.callWith_K (h₀ := base) M.kin hk (thn (ha pos A E s m hA hD r) fun us s1 ⟨r1, k1⟩ => ⟨M.kin.keeps (r.on k1).hb, ?_⟩) he hpl
  refine wpAny_call (codeAny_mono (F A s1 us hA hD (r.on k1).hb r1 (r.on k1).hG) fun r' s' hq => ?_)
  obtain ⟨u, rfl, ru, k⟩ := hq
  exact ⟨ru, keeps_trans k1 k⟩
theorem kv_call {A : Around} {E : Value → Shared → Prop} {s : Shared} {u : Value} {Q : Value → Shared → Prop} {t T : String} {b : Bool} (X : K.In s.heap) (kv : KV G v t) (hG : ∀ q ∈ G, s.heap.get? q.1 = some q.2) (ru : RelV v u) (h : PySem.W.kitOne K (.type t) (.type T) = some b) (q : ∀ tk, Q (.bool b) { s with toks := tk }) :
    wpAny (model prog w) A (call (.builtin "isinstance") [u, .type T]) Q E s := by
  cases kv with
  | non => cases ru; exact PySem.W.kia_one PySem.W.kitx_none X True.intro h (fun z => nomatch z) q
  | bl => cases ru; exact PySem.W.kia_one PySem.W.kitx_bool X True.intro h (fun z => nomatch z) q
  | int => obtain ⟨t, rfl⟩ := ru; exact PySem.W.kia_one PySem.W.kitx_int X True.intro h (fun z => nomatch z) q
  | str => obtain ⟨t, rfl⟩ := ru; exact PySem.W.kia_one PySem.W.kitx_str X True.intro h (fun z => nomatch z) q
  | lst hm hc => cases (show u = Value.ref _ from ru); exact PySem.W.kia_one PySem.W.kitx_list X ⟨_, hG _ hm, hc⟩ h (fun z => nomatch z) q
  | tup hm hc => cases (show u = Value.ref _ from ru); exact PySem.W.kia_one PySem.W.kitx_tuple X ⟨_, hG _ hm, hc⟩ h (fun z => nomatch z) q
  | dct hm hc => cases (show u = Value.ref _ from ru); exact PySem.W.kia_one PySem.W.kitx_dict X ⟨_, hG _ hm, hc⟩ h (fun z => nomatch z) q
/-- isinstance(e, T) -/
theorem re_isi {T : String} {t : String} {b : Bool} (M : Mod K mg base) (c : RC scope env) (hg : scope.names.lookup ("isinstance" : Str) = some NameKind.globalImplicit) (hm : mg "isinstance" = none)
    (h1 : RE prog w base D env vals G e1 v) (h2 : RE prog w base D env vals G e2 (.ty T)) (kv : KV G v t) (h : PySem.W.kitOne K (.type t) (.type T) = some b)
    (he1 : starEach [e1, e2] env = (false, eval e1 env) :: starEach [e2] env := by rfl) (he2 : starEach [e2] env = (false, eval e2 env) :: starEach [] env := by rfl) (hpl : (backTo pos (starEach [e2] env)).any (·.1) = false := by rfl) :
    RE prog w base D env vals G (.Call (.Name "isinstance" p) [e1, e2] [] pos) (.bl b) := by
  intro A E s m hA hD r
  refine wpAny_Call_Name_kw (ld_b M c r hg hm (by rfl) ?_)
  refine PyProof.Rows.callWith_builtin1 ?_ he1 hpl
  refine thn (ra_cons h1 (ra_cons h2 ra_nil he2) he1 pos A E s m hA hD r) fun us s1 ⟨r1, k1⟩ => ?_
  cases r1 with
  | cons ra rr =>
    cases rr with
    | cons rb rn =>
      cases rn
      cases (show _ = Value.type T from rb)
      exact kv_call (M.kin.keeps (r.on k1).hb) kv (r.on k1).hG ra h fun tk => ⟨rfl, keeps_trans k1 (keeps_tok _ _)⟩
/-- a def whose suite is one return -/
theorem rf_of {f : Addr} {fd : FuncData} {x : Str} {params : Arguments} {rp : Pos} {N ps : List Str} (F : FunD K x x params [.Return (some e) rp] scope [] [] f fd) (M : Mod K mg base) (S : FnScope N ps scope) (hloc : ∀ y ∈ ps, scope.names.lookup y = some .local) (hnd : ps.Nodup)
    (hb : ∀ (kV doc pm : Value) (an : Option Addr) (cdv ct : Value) (us : List Value), us.length = ps.length → bindArgs (PySem.W.fnOf x x params [.Return (some e) rp] scope .none kV doc pm an cdv ct) ⟨us, []⟩ = pure (ps.zip us))
    (hl : vs.length = ps.length) (hD : D < recursionLimit) (body : ∀ env : Env, RC scope env → RE prog w base (D + 1) env (ps.zip vs) G e v) : RF prog w base D f vs G v := by
  intro A s us hA hAD hs r hG
  obtain ⟨oc, od, dV, kV, doc, pm, an, cdv, ct, osl, rfl, lk, hcd, hdv, _⟩ := F.ex
  have KX : K.In s.heap := M.kin.keeps hs
  have lim : s.heap.NoLimit := M.nolimit.keeps hs
  have hul : us.length = ps.length := by rw [← r.length]; exact hl
  have hdn : dV = .none := by
    rcases hdv with ⟨_, h⟩ | ⟨h, _⟩
    · exact h
    · exact absurd rfl h
  subst hdn
  refine codeAny_call_function (Nat.lt_of_le_of_lt hAD hD) (KX _ _ lk) rfl S.co S.gen rfl (PySem.W.codeRec_of KX hcd) ?_
  rw [hb _ _ _ _ _ _ us hul]
  refine wpAny_pure ?_
  refine wpAny_newFunctionEnv_cells S.kind (fun ⟨n, v⟩ hy => .inl (hloc n (List.of_mem_zip hy).1)) fun env he s1 x => ?_
  have hk : ∀ b o, s.heap.get? b = some o → s1.heap.get? b = some o := x.toInCall.keep
  refine ⟨lim.keeps hk, codeAny_func ?_⟩
  have hks : Keeps s s1 := by
    obtain ⟨h1, t1, e1⟩ := x.toInCall.same
    exact ⟨h1, t1, e1, by rw [e1] at hk; exact hk⟩
  have hR : RS base env (ps.zip vs) G _ s1 := ⟨fun b o q => hk b o (hs b o q), x.toInCall.ns, fun q hq => ?_, fun q hq => hk _ _ (hG q hq)⟩
  · have cR : RC scope env := by subst he; exact ⟨S.kind, rfl, rfl, rfl⟩
    refine wpAny_execs_cons (wpAny_Return_some (thn (body env cR (A.deeper env) _ s1 _ hA (Nat.succ_le_succ hAD) hR) fun y s' ⟨ry, ky⟩ => ?_))
    exact ⟨y, rfl, ry, keeps_trans hks ky⟩
  · obtain ⟨i, hi, ei⟩ := List.getElem_of_mem hq
    rw [List.getElem_zip] at ei
    subst ei
    have hi1 : i < ps.length := by rw [List.length_zip] at hi; omega
    have hi2 : i < vs.length := by rw [List.length_zip] at hi; omega
    obtain ⟨u, hu, ru⟩ := r.get (List.getElem?_eq_getElem hi2)
    refine ⟨u, bindL_get hnd (List.getElem?_eq_getElem hi1) hu ?_, ru⟩
    subst he
    exact hloc _ (List.getElem_mem hi1)
end
end Wk
set_option Elab.async false
set_option linter.all false
set_option maxRecDepth 100000
set_option maxHeartbeats 4000000
/-! Wk: all(.. for x in xs), xs a list or a tuple of plain values. -/
namespace Wk
open PySem PySem.Spec PyProof.Rows L2
/-- the kind of a plain value -/
inductive KH (K : PySem.W.Frag) (H : Hp) : V → String → Prop
  | non : KH K H .non "NoneType"
  | bl {b} : KH K H (.bl b) "bool"
  | int {i} : KH K H (.int i) "int"
  | str {z} : KH K H (.str z) "str"
  | lst {a xs} : SqL K H a xs → KH K H (.ref a) "list"
  | tup {a xs} : SqT K H a xs → KH K H (.ref a) "tuple"
theorem KV.more {G G' : Pins} {v : V} {t : String} (h : KV G v t) (hs : ∀ q ∈ G, q ∈ G') : KV G' v t := by
  cases h with
  | non => exact .non
  | bl => exact .bl
  | int => exact .int
  | str => exact .str
  | lst h c => exact .lst (hs _ h) c
  | tup h c => exact .tup (hs _ h) c
  | dct h c => exact .dct (hs _ h) c
section
variable {X : Cx} {pins : List (Addr × Obj)} {σ : L2.St} {H : Hp} {s : Shared}
theorem kv_of {P : Addr} {ps : Array Value} {v : V} {t : String} (I : Inv X pins σ H s) (hP : H P = some (.tbl ps)) (h : KH X.K H v t) : ∃ G : Pins, KV G v t ∧ ∀ q ∈ G, s.heap.get? q.1 = some q.2 ∧ q.1 ≠ P := by
  have nP : ∀ {a : Addr} {o : Obj} {its : Array Value} {n : Nat}, s.heap.get? a = some o → o.data = .seq its n → a ≠ P := fun e d z => by
    rw [z, I.hok P _ hP] at e
    cases e
    cases d
  cases h with
  | non => exact ⟨[], .non, by simp⟩
  | bl => exact ⟨[], .bl, by simp⟩
  | int => exact ⟨[], .int, by simp⟩
  | str => exact ⟨[], .str, by simp⟩
  | @lst a xs e =>
    obtain ⟨its, r, hl, hz⟩ := I.list e
    obtain ⟨o, n, e2, hc, _, hd⟩ := _root_.id hl
    exact ⟨[(a, o)], .lst (List.mem_singleton.mpr rfl) hc, fun q hq => by
      cases List.mem_singleton.mp hq
      exact ⟨e2, nP e2 hd⟩⟩
  | @tup a xs e =>
    obtain ⟨its, r, hl, hz⟩ := I.tuple e
    obtain ⟨o, e2, hc, n, hd⟩ := _root_.id hl
    exact ⟨[(a, o)], .tup (List.mem_singleton.mpr rfl) hc, fun q hq => by
      cases List.mem_singleton.mp hq
      exact ⟨e2, nP e2 hd⟩⟩
theorem kvs_of {P : Addr} {ps : Array Value} (I : Inv X pins σ H s) (hP : H P = some (.tbl ps)) : ∀ (xs : List V), (∀ v ∈ xs, ∃ t, KH X.K H v t) → ∃ G : Pins, (∀ v ∈ xs, ∃ t, KV G v t) ∧ ∀ q ∈ G, s.heap.get? q.1 = some q.2 ∧ q.1 ≠ P
  | [], _ => ⟨[], by simp, by simp⟩
  | v :: xs, h => by
    obtain ⟨t, ht⟩ := h v (List.mem_cons_self ..)
    obtain ⟨G1, k1, g1⟩ := kv_of I hP ht
    obtain ⟨G2, k2, g2⟩ := kvs_of I hP xs fun u hu => h u (List.mem_cons_of_mem _ hu)
    refine ⟨G1 ++ G2, fun u hu => ?_, fun q hq => ?_⟩
    · rcases List.mem_cons.mp hu with rfl | hu
      · exact ⟨t, k1.more fun q hq => List.mem_append_left _ hq⟩
      · obtain ⟨t2, h2⟩ := k2 u hu
        exact ⟨t2, h2.more fun q hq => List.mem_append_right _ hq⟩
    · rcases List.mem_append.mp hq with z | z
      · exact g1 q z
      · exact g2 q z
/-- the element's test -/
def trV (pb : V → Bool) (l : List V) (j : Nat) : Bool := match l[j]? with
  | some b => pb b
  | none => false
theorem trV_some {pb : V → Bool} {l : List V} {j : Nat} {b : V} (h : l[j]? = some b) : trV pb l j = pb b := by
  unfold trV
  rw [h]
theorem all_trV (l : List V) (pb : V → Bool) : (List.range l.length).all (trV pb l) = l.all pb := by
  rw [Bool.eq_iff_iff, List.all_eq_true, List.all_eq_true]
  constructor
  · intro h b hb
    obtain ⟨j, hj, e⟩ := List.getElem_of_mem hb
    have q := h j (List.mem_range.mpr hj)
    rw [trV_some (List.getElem?_eq_getElem hj), e] at q
    exact q
  · intro h j hj
    have hj' := List.mem_range.mp hj
    rw [trV_some (List.getElem?_eq_getElem hj')]
    exact h _ (List.getElem_mem hj')
/-- the generator g over xs, ready to be walked, in the state s5; H1: what was held before -/
def ReadyV (X : Cx) (pins : List (Addr × Obj)) (σ : L2.St) (H1 : Hp) (P : Addr) (xs : List V) (pb : V → Bool) (g : Addr) (s5 : Shared) : Prop :=
  ∃ (fp wr : List Addr) (G : Array GenState → Array GenState → Prop) (F : Nat → Value → Prop) (St : Nat → Shared → Prop),
    WalksS X.prog X.w X.A.in1 g fp wr G xs.length F St ∧ St 0 s5 ∧
    TruthOf X.prog X.w X.A.in1 F (trV pb xs) ∧
    ∀ s', Moved wr G s5 s' → ∃ H2, GxR.Tabbed P H1 H2 ∧ Inv X pins σ H2 s'
/-- what is walked: an iterator object o over the items at y -/
structure Itr (X : Cx) (y : Addr) (its : Array Value) (h0 : Heap) (o : Obj) (St0 : Addr → Nat → Heap → Prop) : Prop where
  w : ∀ (I : Addr) (A' : Around), y ≠ I → A'.handled = none → Walks X.prog X.w A' I [I, y] [I] its.size (fun i v => its[i]? = some v) (St0 I)
  st : St0 h0.objs.size 0 (h0.push o)
  lt : y < h0.objs.size
theorem gen_val {c P : Addr} {elt : Expr} {x : Str} {gpos : Pos} {scope : Scope} {pb : V → Bool} {k : Nat} {Q' : Value → Shared → Prop} {y : Addr} {its : List Value} {xs : List V} {o : Obj} {St0 : Addr → Nat → Heap → Prop} {s1 : Shared} {H1 : Hp} {ps : Array Value}
    (hr : Room k X.A) (TB : GxR.TabB X.base X.mg c P) (hcode : X.env.code = .ref c) (S : GxR.GenS X.env scope x)
    (hel : Mod X.K X.mg X.base → ∀ (cenv : Env) (G : Pins) (v : V) (t : String), RC scope cenv → KV G v t → RE X.prog X.w X.base (X.A.depth + 1) cenv [(x, v)] G elt (.bl (pb v)))
    (I1 : Inv X pins σ H1 s1) (hP : H1 P = some (.tbl ps)) (ht : TriplesOk ps.toList) (hxs : ∀ v ∈ xs, ∃ t, KH X.K H1 v t) (rv : Vals xs its) (hyP : y ≠ P) (IT : Itr X y its.toArray s1.heap o St0)
    (hQ : ∀ g s5, ReadyV X pins σ H1 P xs pb g s5 → Q' (.ref g) s5) :
    (s1.heap.push o).NoLimit ∧ wpAny (model X.prog X.w) X.A (genexprCode X.env gpos (X.env.qual ++ "<genexpr>") scope) (fun code s₃ => wpAny (model X.prog X.w) X.A (builtinsFor X.env.globals X.env.builtins) (fun bi s₄ =>
        ∃ Ia fp wr n₀ Pf St₀ pz F, Value.ref s1.heap.objs.size = .ref Ia ∧ (∀ A' : Around, A'.handled = none → Walks X.prog X.w A' Ia fp wr n₀ Pf St₀) ∧ St₀ 0 s₄.heap ∧ (∀ b ∈ fp, b < s₄.heap.objs.size) ∧ s₄.heap.NoLimit ∧ cStatics ∉ wr ∧
          (∀ href : Heap, (∀ b o, s₄.heap.get? b = some o → href.get? b = some o) →
            QuietGenD X.prog X.w (genEnv scope (cloFrom X.env.cells scope.names []) s₄.heap.objs.size code bi X.env) x [] elt (List.range s₄.heap.objs.size) wr Pf pz F href (X.A.depth + 1) (X.A.units + 8)) ∧
          (∀ a h₅ tk gs, gs.bare = true → s₄.heap.objs.size < a → h₅.objs.size = a + 1 → (∀ b o, s₄.heap.get? b = some o → h₅.get? b = some o) →
            WalksS X.prog X.w X.A.in4 a (a :: s₄.heap.objs.size :: List.range s₄.heap.objs.size) (s₄.heap.objs.size :: wr) (GenOnlyQ s₄.gens.size) (passing pz n₀ 0).length
              (fun j y => ∃ i, (passing pz n₀ 0)[j]? = some i ∧ F i y) (GenAt X.prog X.w X.A.in4 a s₄.gens.size s₄.heap.objs.size (List.range s₄.heap.objs.size) wr pz n₀ F) →
            GenAt X.prog X.w X.A.in4 a s₄.gens.size s₄.heap.objs.size (List.range s₄.heap.objs.size) wr pz n₀ F 0 { s₄ with gens := s₄.gens.push gs, toks := tk, heap := h₅ } →
            Q' (.ref a) { s₄ with gens := s₄.gens.push gs, toks := tk, heap := h₅ })) X.xe s₃) X.xe { s1 with heap := s1.heap.push o } := by
  obtain ⟨G, hkv, hG⟩ := kvs_of I1 hP xs hxs
  have hlen : its.length = xs.length := by rw [← rv.length]
  have hat : ∀ (i : Nat) (u : Value), its.toArray[i]? = some u → ∃ v, xs[i]? = some v ∧ RelV v u := fun i u hv => by
    have hv2 : its[i]? = some u := by simpa using hv
    have hi2 : i < its.length := (List.getElem?_eq_some_iff.mp hv2).1
    obtain ⟨a, ha⟩ : ∃ a, xs[i]? = some a := ⟨xs[i]'(by omega), List.getElem?_eq_getElem _⟩
    obtain ⟨u2, hu, ru⟩ := rv.get ha
    rw [hv2] at hu
    cases hu
    exact ⟨a, ha, ru⟩
  have hPs : s1.heap.get? P = some { cls := .none, data := .fields ps } := I1.hok P _ hP
  have hPlt : P < s1.heap.objs.size := Heap.lt_size hPs
  have hP2 : (s1.heap.push o).get? P = some { cls := .none, data := .fields ps } := Heap.get?_push_of_some _ hPs
  have cd : PySem.W.CodeHd (s1.heap.push o) c P := TB.code.keeps fun b u e => Heap.get?_push_of_some _ (I1.bk b u e)
  have lim2 : (s1.heap.push o).NoLimit := I1.nolimit.push o
  have hylt := IT.lt
  have cont : ∀ (code : Value) (h3 : Heap) (tk : Nat) (ps' : Array Value), Heap.ExtBut P (s1.heap.push o) h3 → (s1.heap.push o).objs.size ≤ h3.objs.size → h3.get? P = some { cls := .none, data := .fields ps' } → (∃ more, ps' = ps ++ more) → TriplesOk ps'.toList →
      wpAny (model X.prog X.w) X.A (builtinsFor X.env.globals X.env.builtins) (fun bi s₄ =>
        ∃ Ia fp wr n₀ Pf St₀ pz F, Value.ref s1.heap.objs.size = .ref Ia ∧ (∀ A' : Around, A'.handled = none → Walks X.prog X.w A' Ia fp wr n₀ Pf St₀) ∧ St₀ 0 s₄.heap ∧ (∀ b ∈ fp, b < s₄.heap.objs.size) ∧ s₄.heap.NoLimit ∧ cStatics ∉ wr ∧
          (∀ href : Heap, (∀ b o, s₄.heap.get? b = some o → href.get? b = some o) →
            QuietGenD X.prog X.w (genEnv scope (cloFrom X.env.cells scope.names []) s₄.heap.objs.size code bi X.env) x [] elt (List.range s₄.heap.objs.size) wr Pf pz F href (X.A.depth + 1) (X.A.units + 8)) ∧
          (∀ a h₅ tk gs, gs.bare = true → s₄.heap.objs.size < a → h₅.objs.size = a + 1 → (∀ b o, s₄.heap.get? b = some o → h₅.get? b = some o) →
            WalksS X.prog X.w X.A.in4 a (a :: s₄.heap.objs.size :: List.range s₄.heap.objs.size) (s₄.heap.objs.size :: wr) (GenOnlyQ s₄.gens.size) (passing pz n₀ 0).length
              (fun j y => ∃ i, (passing pz n₀ 0)[j]? = some i ∧ F i y) (GenAt X.prog X.w X.A.in4 a s₄.gens.size s₄.heap.objs.size (List.range s₄.heap.objs.size) wr pz n₀ F) →
            GenAt X.prog X.w X.A.in4 a s₄.gens.size s₄.heap.objs.size (List.range s₄.heap.objs.size) wr pz n₀ F 0 { s₄ with gens := s₄.gens.push gs, toks := tk, heap := h₅ } →
            Q' (.ref a) { s₄ with gens := s₄.gens.push gs, toks := tk, heap := h₅ })) X.xe { s1 with heap := h3, toks := tk } := by
    intro code h3 tk ps' hx hsz hP3 hmore ht3
    obtain ⟨bm, ob, e1, e2, e3, e4, e5, e6, e7, e8⟩ := TB.bm
    have hcP : cStatics ≠ P := fun e => by
      obtain ⟨_, hns, _⟩ := I1.nolimit
      obtain ⟨o', es, ep, ho, hd, _⟩ := hns
      rw [e, hPs] at ho
      cases ho
      cases hd
    have hcl : cStatics < s1.heap.objs.size := let ⟨_, hns, _⟩ := I1.nolimit; hns.lt
    have sz2 : (s1.heap.push o).objs.size = s1.heap.objs.size + 1 := Heap.size_push ..
    have keep3 : ∀ b u, b ≠ P → s1.heap.get? b = some u → h3.get? b = some u := fun b u hb e => hx b u hb (Heap.get?_push_of_some _ e)
    have hbP : ∀ b u, X.base.get? b = some u → b ≠ P := fun b u e z => by
      have e2 := (I1.bs b u e).2
      rw [z, hP] at e2
      cases e2
    refine wpAny_builtinsFor (m := X.mg) (by rw [I1.ok.glob]; exact ((I1.mod.glob.keeps I1.bk).push o).extBut hx TB.gP) e1 e2 (keep3 _ _ e4 (I1.bk _ _ e5)) e6 e7 e8 ?_
    refine ⟨s1.heap.objs.size, [s1.heap.objs.size, y], [s1.heap.objs.size], its.toArray.size, (fun i v => its.toArray[i]? = some v), St0 s1.heap.objs.size, (fun _ => true),
      (fun i z => ∃ v, xs[i]? = some v ∧ z = .bool (pb v)), rfl, (fun A' hA => IT.w _ A' (Nat.ne_of_lt hylt) hA), ?_, ?_, lim2.extBut hx hcP, ?_, ?_, ?_⟩
    · refine (IT.w _ X.A (Nat.ne_of_lt hylt) hr.hd).frame _ _ _ IT.st fun b hb u e => hx b u (fun z => ?_) e
      rcases List.mem_cons.mp hb with z2 | z2
      · exact Nat.ne_of_lt hPlt (z.symm.trans z2)
      · exact hyP ((List.mem_singleton.mp z2).symm.trans z)
    · intro b hb
      rcases List.mem_cons.mp hb with z | z
      · rw [z]
        show s1.heap.objs.size < h3.objs.size
        omega
      · rw [List.mem_singleton.mp z]
        have e9 : s1.heap.objs.size ≤ h3.objs.size := by omega
        exact Nat.lt_of_lt_of_le hylt e9
    · intro z
      rcases List.mem_cons.mp z with z | z
      · exact Nat.ne_of_lt hcl z
      · cases z
    · intro href hhref
      refine ⟨fun A' E' i v s₂ m₂ hA hD hU hPv hn hm hk => ?_, fun A' E' i u s₂ m₂ hA hD hU hPv hp hn hm hk => ?_⟩
      · simp only [List.forIn_nil]
        exact wpAny_pure ⟨rfl, keeps_self _⟩
      · obtain ⟨v, hv, ru⟩ := hat i u hPv
        obtain ⟨t, kv⟩ := hkv v (List.mem_of_getElem? hv)
        have kept : ∀ b q, b ≠ P → s1.heap.get? b = some q → s₂.heap.get? b = some q := fun b q hb e => by
          have hl := Heap.lt_size e
          refine hk b (List.mem_range.mpr (Nat.lt_of_lt_of_le hl (show s1.heap.objs.size ≤ h3.objs.size by omega))) (fun z => ?_) q (hhref b q (keep3 b q hb e))
          rw [List.mem_singleton.mp z] at hl
          exact Nat.lt_irrefl _ hl
        have hR : RS X.base (genEnv scope (cloFrom X.env.cells scope.names []) h3.objs.size code builtinsNs X.env) [(x, v)] G m₂ s₂ :=
          ⟨fun b q e => kept b q (hbP b q e) (I1.bk b q e), hn, fun q hq => by cases List.mem_singleton.mp hq; exact ⟨u, hm, ru⟩, fun q hq => kept q.1 q.2 (hG q hq).2 (hG q hq).1⟩
        refine wpAny_mono (hel I1.mod (genEnv scope (cloFrom X.env.cells scope.names []) h3.objs.size code builtinsNs X.env) G v t ⟨S.kind, rfl, I1.ok.glob, rfl⟩ kv A' E' s₂ m₂ hA hD hR) (fun z s3 r => ⟨⟨v, hv, ?_⟩, r.2⟩) fun _ _ e => e
        exact r.1
    · intro g h5 tk5 gs hgb hag hsz5 hk5 W5 hgat
      simp only [GxR.passing_true, List.length_range] at W5
      have hn5 : its.toArray.size = xs.length := by rw [List.size_toArray, hlen]
      rw [hn5] at W5 hgat
      refine hQ g _ ⟨_, _, _, _, _, W5.in4_1, hgat, ?_, fun s' hm => ?_⟩
      · intro j z sj Qj Ej hy hQj
        obtain ⟨i, hij, v, hv, rfl⟩ := hy
        obtain ⟨hj, ej⟩ := List.getElem?_eq_some_iff.mp hij
        rw [List.getElem_range] at ej
        subst ej
        rw [trV_some hv] at hQj
        exact wpAny_truthy_bool hQj
      · obtain ⟨more, em⟩ := hmore
        have nwr : ∀ b u, s1.heap.get? b = some u → b ∉ h3.objs.size :: [s1.heap.objs.size] := fun b u e hb => by
          have hl := Heap.lt_size e
          rcases List.mem_cons.mp hb with z | z
          · rw [z] at hl
            have h9 : (h3.objs.size : Nat) < s1.heap.objs.size := hl
            omega
          · rcases List.mem_cons.mp z with z | z
            · rw [z] at hl
              exact Nat.lt_irrefl _ hl
            · cases z
        have J := GxR.inv_tab (more := more) (h' := s'.heap) (g' := s'.gens) (d' := s'.drawn) (t' := s'.toks) I1 hP (fun b u hb e => hm.heap b u (nwr b u e) (hk5 b u (keep3 b u hb e)))
          (by rw [← em]; exact hm.heap P _ (nwr P _ hPs) (hk5 P _ hP3)) (AllBare.movedS (I1.bare.push hgb) hm)
        rw [GxR.sh_eta s1 s' hm.os] at J
        refine ⟨upd H1 P (.tbl (ps ++ more)), ⟨⟨ps ++ more, upd_same, by rw [← em]; exact ht3⟩, fun b hb => upd_ne hb⟩, J⟩
  refine ⟨lim2, ?_⟩
  cases hf : codeAmong gpos ps.toList with
  | none =>
    refine wpAny_genexprCodeX hcode (cd.code hP2 ht) (cd.tab hP2) hf fun c' h' tk hx hge hlt hco' _ htab' _ => ?_
    obtain ⟨o1, vs, f1, tf, fl, tg, inF, tx, tt, op, _, _, _, _, _, _, _, _, _, htr, _⟩ := hco'
    exact cont _ h' tk _ hx (Nat.le_trans hge (Nat.le_of_lt hlt)) htab'.2 ⟨_, rfl⟩ htr
  | some cv =>
    refine wpAny_genexprCode_hit hcode (cd.code hP2 ht) hf ?_
    exact cont cv (s1.heap.push o) s1.toks ps (Heap.ExtBut.refl _ _) (Nat.le_refl _) hP2 ⟨#[], by simp⟩ ht
/-- all(test for x in e), e a list or a tuple of plain values; behind it the def's table may have grown -/
def tAllV (K : PySem.W.Frag) (P : Addr) (pb : V → Bool) (te : TE) : TE := fun σ H Q => te σ H fun v H1 => ∃ (y : Addr) (xs : List V), v = .ref y ∧ (SqL K H1 y xs ∨ SqT K H1 y xs) ∧ (∀ v ∈ xs, ∃ t, KH K H1 v t) ∧ GxR.TabG H1 P ∧ ∀ H2, GxR.Tabbed P H1 H2 → Q (.bl (xs.all pb)) H2
theorem pe_allV {c P : Addr} {elt iter : Expr} {x : Str} {px p pos gpos : Pos} {scope : Scope} {pb : V → Bool} {te : TE} {k : Nat}
    (hr : Room k X.A) (hg : Gl X "all") (hm : X.mg "all" = none) (TB : GxR.TabB X.base X.mg c P) (hcode : X.env.code = .ref c) (S : GxR.GenS X.env scope x) (hi : PE X iter te)
    (hel : Mod X.K X.mg X.base → ∀ (cenv : Env) (G : Pins) (v : V) (t : String), RC scope cenv → KV G v t → RE X.prog X.w X.base (X.A.depth + 1) cenv [(x, v)] G elt (.bl (pb v)))
    (hs : ∀ v, genFold iter X.env v = pure v)
    (he : starEach [.GeneratorExp elt [⟨.Name x px, iter, [], 0⟩] scope gpos] X.env = (false, eval (.GeneratorExp elt [⟨.Name x px, iter, [], 0⟩] scope gpos) X.env) :: starEach [] X.env := by rfl) :
    PE X (.Call (.Name "all" p) [.GeneratorExp elt [⟨.Name x px, iter, [], 0⟩] scope gpos] [] pos) (tAllV X.K P pb te) := by
  refine ⟨fun pins s σ H Q I h => ?_⟩
  refine wpAny_Call_Name_kw (ld_blt I hg hm (by rfl) ?_)
  refine PyProof.Rows.callWith_builtin1 ?_ he (by rfl)
  rw [he]
  show wpAny _ _ (spliced ((false, eval (.GeneratorExp elt [⟨.Name x px, iter, [], 0⟩] scope gpos) X.env) :: backTo pos (starEach [] X.env))) _ _ s
  refine Calls.spliced_cons ?_
  refine wpAny_GeneratorExp_walksQD hr.hd S.co (closure_ok S.free) S.cell S.dot S.loc S.kind (by have := hr.dp; omega) ?_ hs
  refine thn (hi.run pins s σ H _ I h) fun xv s1 ⟨v, H1, I1, r1, q1⟩ => ?_
  obtain ⟨y, xs, rfl, hy, hxs, ⟨ps, hP, ht⟩, hR⟩ := q1
  obtain rfl : xv = Value.ref y := r1
  have fin : ∀ g s5, ReadyV X pins σ H1 P xs pb g s5 → (fun u s₁ => wpAny (model X.prog X.w) X.A (spliced (backTo pos (starEach [] X.env))) (fun vs s₁ => wpAny (model X.prog X.w) X.A (call (.builtin "all") (u :: vs)) (EP X pins σ Q) X.xe s₁) X.xe s₁) (.ref g) s5 := fun g s5 hG => by
    obtain ⟨fp, wr, G, F, St, W, hst, htr, hI⟩ := hG
    refine Calls.spliced_nil ?_
    refine call_all_walkS (W.self 0 _ _ _ hst ⟨g, fp, wr, G, _, F, St, _, rfl, W, hst, htr, fun s' hmv => ?_⟩)
    obtain ⟨H2, hT, J⟩ := hI s' hmv
    refine ⟨.bl _, H2, J, rfl, ?_⟩
    rw [all_trV]
    exact hR H2 hT
  rcases hy with hy | hy
  · obtain ⟨its, rv, hl, hz⟩ := I1.list hy
    have hIL := hl.isList
    have hyP : y ≠ P := fun z => by
      obtain ⟨_, e, hc1, _, hd1⟩ := _root_.id hIL
      rw [z, I1.hok P _ hP] at e
      cases e
      cases hd1
    refine wpAny_pyIter_list hIL ?_
    refine gen_val (Q' := fun u s₁ => wpAny (model X.prog X.w) X.A (spliced (backTo pos (starEach [] X.env))) (fun vs s₁ => wpAny (model X.prog X.w) X.A (call (.builtin "all") (u :: vs)) (EP X pins σ Q) X.xe s₁) X.xe s₁) (St0 := fun I i h => h.IsListIter I y i ∧ h.IsList y its.toArray) hr TB hcode S hel I1 hP ht hxs rv hyP ⟨fun I A' hne hA => Walks.list hA I y hne _, ?_, ?_⟩ fin
    · exact ⟨⟨_, Heap.get?_push_size _ rfl, rfl, rfl⟩, by
        obtain ⟨ob, e, r⟩ := _root_.id hIL
        exact ⟨ob, Heap.get?_push_of_some _ e, r⟩⟩
    · obtain ⟨_, e, _⟩ := _root_.id hIL
      exact Heap.lt_size e
  · obtain ⟨its, rv, hl, hz⟩ := I1.tuple hy
    have hIT : s1.heap.IsTuple y its.toArray := hl
    have hyP : y ≠ P := fun z => by
      obtain ⟨_, e, hc1, hd1⟩ := _root_.id hl
      obtain ⟨_, hd1⟩ := hd1
      rw [z, I1.hok P _ hP] at e
      cases e
      cases hd1
    refine wpAny_pyIter_tuple hIT ?_
    refine gen_val (Q' := fun u s₁ => wpAny (model X.prog X.w) X.A (spliced (backTo pos (starEach [] X.env))) (fun vs s₁ => wpAny (model X.prog X.w) X.A (call (.builtin "all") (u :: vs)) (EP X pins σ Q) X.xe s₁) X.xe s₁) (St0 := fun I i h => h.IsTupleIter I y i ∧ h.IsTuple y its.toArray) hr TB hcode S hel I1 hP ht hxs rv hyP ⟨fun I A' hne hA => Walks.tuple hA I y hne _, ?_, ?_⟩ fin
    · exact ⟨⟨_, Heap.get?_push_size _ rfl, rfl, rfl⟩, hIT.at fun o e => Heap.get?_push_of_some _ e⟩
    · obtain ⟨_, e, _⟩ := _root_.id hl
      exact Heap.lt_size e
end
end Wk
set_option Elab.async false
set_option linter.all false
set_option maxRecDepth 100000
set_option maxHeartbeats 4000000
/-! Wk: calls without arguments, by keywords alone; own classes: methods, properties, making. -/
namespace Wk
open PySem PySem.Spec PyProof.Rows L2
/-- a def that is called with n positional values and these keywords -/
structure CalK (P : Program) (w : World) (K : PySem.W.Frag) (mg : Str → Option Value) (base : Heap) (k : Nat) (x : Str) (sp : Sp) (n : Nat) (ks : List Str) (gV : List V → List V → List V) : Prop where
  ex : ∃ (f : Addr) (fd : FuncData) (ps : List Str) (g : List Value → List Value → List Value), FnOk P w K mg base C8.CX0 k f fd ps sp ∧ mg x = some (.ref f) ∧ PySem.W.keepIn K (.ref f) = true ∧ KBn K fd ps n ks g gV
/-- a property of the class at C -/
structure Prp (P : Program) (w : World) (K : PySem.W.Frag) (mg : Str → Option Value) (base : Heap) (k : Nat) (C : Addr) (m : Str) (sp : Sp) : Prop where
  ex : ∃ (p f : Addr) (fd : FuncData) (ps : List Str), Cls K C ∧ PropOf K C m p f ∧ FnOk P w K mg base C8.CX0 k f fd ps sp ∧ Binds K fd ps []
def tCallK (m : Nat) (sp : Sp) (gV : List V → List V → List V) (E : XK) (tk : TA) : TE := fun σ H Q => tk σ H fun zs H2 => zs.length = m ∧ sp (gV [] zs) H2 Q E
section
variable {X : Cx} {j k : Nat} {x m : Str} {sp : Sp} {dvs : List V} {ks : List Str} {gV : List V → List V → List V} {p pos apos : Pos} {kws : List Keyword} {tk : TA} {C : Addr} {o : Expr} {ta : TE}
theorem pe_c0 (c : C8.Cal X.prog X.w X.K X.mg X.base k x sp dvs) (hr : Room j X.A) (hk : k ≤ j) (hg : Gl X x) (hdb : (x == ("__debug__" : Str)) = false := by decide) : PE X (.Call (.Name x p) [] [] pos) (tCall sp dvs C8.E0 tNil) := by
  obtain ⟨f, fd, ps, ds, F, hm, kp, b, d⟩ := c.ex
  exact pe_call0 F (hr.mono hk) hg hm kp b d C8.pass0 hdb
theorem pe_mk0 (c : C8.Mak X.prog X.w X.K X.mg X.base k x C sp dvs) (hr : Room j X.A) (hk : k + 1 ≤ j) (hg : Gl X x) (hdb : (x == ("__debug__" : Str)) = false := by decide) : PE X (.Call (.Name x p) [] [] pos) (tMake C sp dvs C8.E0 tNil) := by
  obtain ⟨f, fd, ps, ds, M, F, hm, b, d⟩ := c.ex
  exact pe_make0 M F (hr.mono hk) hg hm b d C8.pass0 hdb
/-- f(k = v, ..) -/
theorem pe_ck (c : CalK X.prog X.w X.K X.mg X.base k x sp 0 ks gV) (hr : Room j X.A) (hk : k ≤ j) (hg : Gl X x) (hkw : PK X kws tk) (hall : (backToKw pos (keywordEach kws X.env)).all (·.1.isSome) = true := by rfl) (hks : (backToKw pos (keywordEach kws X.env)).filterMap (·.1) = ks := by rfl)
    (hdb : (x == ("__debug__" : Str)) = false := by decide) (hpl : ((backTo pos (starEach [] X.env)).any (·.1) || (backToKw pos (keywordEach kws X.env)).any (·.1.isNone)) = false := by rfl) :
    PE X (.Call (.Name x p) [] kws pos) (tCallK ks.length sp gV C8.E0 tk) := by
  obtain ⟨f, fd, ps, g, F, hm, kp, b⟩ := c.ex
  refine ⟨fun pins s σ H Q I h => ?_⟩
  refine wpAny_Call_Name_kw (ld_glob I hg hm ?_ hdb)
  refine PySem.W.callWith_KW0 (h₀ := X.base) I.ok.mod.kin kp hall ?_ hpl
  refine thn (hkw.run pos pins s σ H _ I h) fun ws s2 ⟨zs, H2, I2, rz, l2, q2⟩ => ⟨I2.kIn, ?_⟩
  rw [hks]
  exact run_fnN F (hr.mono hk) b C8.pass0 I2 .nil rz rfl l2 q2
/-- f(e, .., k = v, ..) -/
theorem pe_ckp {n : Nat} {e : Expr} {es : List Expr} {t : TA} (c : CalK X.prog X.w X.K X.mg X.base k x sp n ks gV) (hr : Room j X.A) (hk : k ≤ j) (hg : Gl X x) (ha : PA X (e :: es) t) (hkw : PK X kws tk) (hall : (backToKw pos (keywordEach kws X.env)).all (·.1.isSome) = true := by rfl) (hks : (backToKw pos (keywordEach kws X.env)).filterMap (·.1) = ks := by rfl)
    (hdb : (x == ("__debug__" : Str)) = false := by decide) (he : starEach (e :: es) X.env = (false, eval e X.env) :: starEach es X.env := by rfl) (hpl : ((backTo pos (starEach (e :: es) X.env)).any (·.1) || (backToKw pos (keywordEach kws X.env)).any (·.1.isNone)) = false := by rfl) :
    PE X (.Call (.Name x p) (e :: es) kws pos) (tCallN n ks.length sp gV C8.E0 t tk) := by
  obtain ⟨f, fd, ps, g, F, hm, kp, b⟩ := c.ex
  exact pe_callN F (hr.mono hk) hg hm kp b C8.pass0 ha hkw hall hks hdb he hpl
/-- e.m, a property -/
theorem pe_pr (c : Prp X.prog X.w X.K X.mg X.base k C m sp) (hr : Room j X.A) (hk : k + 1 ≤ j) (he : PE X o ta) (hab : attributeBase o m X.env (eval o X.env) = eval o X.env := by rfl) : PE X (.Attribute o m pos) (tProp C sp [] C8.E0 ta) := by
  obtain ⟨q, f, fd, ps, hc, hp, F, b⟩ := c.ex
  exact pe_prop he hc hp F (hr.mono hk) b .nil C8.pass0 hab
end
/-! ### steps -/
def KMeth (C : Addr) (m : Str) (sp : Sp) (dvs : List V) (E : XK) (t : TA) (σ : L2.St) (Q : VK) (x : V) (H1 : Hp) : Prop := ∃ a dx fs, x = .ref a ∧ H1 a = some (.ins C dx fs) ∧ fs.lookup m = none ∧ t σ H1 fun vs H2 => sp (x :: (vs ++ dvs)) H2 Q E
def KMake (C : Addr) (sp : Sp) (dvs : List V) (E : XK) (Q : VK) (vs : List V) (H1 : Hp) : Prop := ∀ x dx, H1 x = none → H1 dx = none → dx ≠ x → sp (.ref x :: (vs ++ dvs)) (upd (upd H1 dx (.own x)) x (.ins C dx [])) (fun v H2 => v = .non ∧ Q (.ref x) H2) E
def KProp (C : Addr) (sp : Sp) (E : XK) (Q : VK) (x : V) (H1 : Hp) : Prop := ∃ a dx fs, x = .ref a ∧ H1 a = some (.ins C dx fs) ∧ sp [.ref a] H1 Q E
section
variable {σ : L2.St} {H : Hp} {Q : VK} {C : Addr} {m : Str} {sp : Sp} {dvs : List V} {E : XK} {t : TA} {ta te : TE} {a dx : Addr} {fs : List (Str × V)} {n : Nat} {gV : List V → List V → List V} {D : Ends} {f : Str} {K : PySem.W.Frag} {v : V}
theorem w_meth (h : ta σ H fun x H1 => KMeth C m sp dvs E t σ Q x H1) : tMeth C m sp dvs E ta t σ H Q := h
theorem w_kmeth (ho : H a = some (.ins C dx fs)) (l : fs.lookup m = none) (h : t σ H fun vs H2 => sp (.ref a :: (vs ++ dvs)) H2 Q E) : KMeth C m sp dvs E t σ Q (.ref a) H := ⟨a, dx, fs, rfl, ho, l, h⟩
theorem w_make (h : t σ H fun vs H1 => KMake C sp dvs E Q vs H1) : tMake C sp dvs E t σ H Q := h
theorem w_prop (h : ta σ H fun x H1 => KProp C sp E Q x H1) : tProp C sp [] E ta σ H Q := h
theorem w_kprop (ho : H a = some (.ins C dx fs)) (h : sp [.ref a] H Q E) : KProp C sp E Q (.ref a) H := ⟨a, dx, fs, rfl, ho, h⟩
theorem w_callN {n m : Nat} {tk : TA} (h : t σ H fun vs H1 => tk σ H1 fun zs H2 => vs.length = n ∧ zs.length = m ∧ sp (gV vs zs) H2 Q E) : tCallN n m sp gV E t tk σ H Q := h
theorem w_callK (h : t σ H fun zs H2 => zs.length = n ∧ sp (gV [] zs) H2 Q E) : tCallK n sp gV E t σ H Q := h
end
section
variable {K : PySem.W.Frag}
theorem w_gtup {n : Nat} {t : TGs} {σ : L2.St} {a : Addr} {xs : List V} {H : Hp} {R : L2.St → Hp → Prop} (h : SqT K H a xs) (hn : xs.length = n) (q : t xs σ H R) : gTup K n t (.ref a) σ H R := ⟨a, xs, rfl, h, hn, q⟩
theorem w_gcons {t : TG} {u : TGs} {v : V} {r : List V} {σ : L2.St} {H : Hp} {R : L2.St → Hp → Prop} (q : t v σ H fun σ' H' => u r σ' H' R) : gCons t u (v :: r) σ H R := ⟨v, r, rfl, q⟩
theorem w_gnil {σ : L2.St} {H : Hp} {R : L2.St → Hp → Prop} (q : R σ H) : gNil [] σ H R := ⟨rfl, q⟩
theorem w_gname {n : Nat} {v : V} {σ : L2.St} {H : Hp} {R : L2.St → Hp → Prop} (q : R (σ.set n (some v)) H) : gName n v σ H R := q
def KStar (K : PySem.W.Frag) (t : TA) (σ : L2.St) (Q : List V → Hp → Prop) (x : V) (H1 : Hp) : Prop := ∃ p xs, x = V.ref p ∧ (SqT K H1 p xs ∨ SqL K H1 p xs) ∧ t σ H1 fun ys H2 => Q (xs ++ ys) H2
theorem w_star {te : TE} {t : TA} {σ : L2.St} {H : Hp} {Q : List V → Hp → Prop} (h : te σ H fun x H1 => KStar K t σ Q x H1) : StX.tStar K te t σ H Q := h
theorem w_kstarL {t : TA} {σ : L2.St} {H : Hp} {Q : List V → Hp → Prop} {p : Addr} {xs : List V} (e : SqL K H p xs) (h : t σ H fun ys H2 => Q (xs ++ ys) H2) : KStar K t σ Q (.ref p) H := ⟨p, xs, rfl, .inr e, h⟩
theorem w_kstarT {t : TA} {σ : L2.St} {H : Hp} {Q : List V → Hp → Prop} {p : Addr} {xs : List V} (e : SqT K H p xs) (h : t σ H fun ys H2 => Q (xs ++ ys) H2) : KStar K t σ Q (.ref p) H := ⟨p, xs, rfl, .inl e, h⟩
end
section
variable {K : PySem.W.Frag} {H : Hp} {Q : VK} {x : V}
theorem c_isiT2 {t A B : String} {a b r : Bool} {tp : Addr} (ht : H tp = some (.tup [.ty A, .ty B])) (ty : TyX K H x (.type t)) (ha : kitB t A = some a) (hb : kitB t B = some b) (hr : (a || b) = r) (q : Q (.bl r) H) : CB (rIsiT K) [x, .ref tp] H Q := by
  refine ⟨x, tp, _, .type t, [.type A, .type B], r, rfl, ht, .cons (.ty A) (.cons (.ty B) .nil), ty, ?_, q⟩
  subst hr
  have e1 := kit_ty (K := K) ha
  have e2 := kit_ty (K := K) hb
  cases a <;> cases b <;> simp [PySem.W.kitAny, e1, e2]
theorem w_cat {l b : Addr} {xs zs : List V} (h1 : H l = some (.lst xs)) (h2 : H b = some (.lst zs)) (hz : xs.length + zs.length ≤ sizeLine) (q : ∀ p H2, New H H2 p (.lst (xs ++ zs)) → Q (.ref p) H2) : rCat (.ref l) (.ref b) H Q :=
  ⟨l, b, xs, zs, rfl, rfl, h1, h2, hz, fun p hp => q p _ (New.of hp)⟩
theorem w_rep {l : Addr} {k : Int} {xs : List V} (h1 : H l = some (.lst xs)) (h2 : -(2 ^ 63) ≤ k) (h3 : k < 2 ^ 63) (hz : xs.length * k.toNat ≤ sizeLine) (q : ∀ p H2, New H H2 p (.lst (List.replicate k.toNat xs).flatten) → Q (.ref p) H2) : rRep (.ref l) (.int k) H Q :=
  ⟨l, k, xs, rfl, rfl, h1, h2, h3, hz, fun p hp => q p _ (New.of hp)⟩
def KSFld (K : PySem.W.Frag) (f : Str) (D : Ends) (σ : L2.St) (y x : V) (H2 : Hp) : Prop := ∃ a C dx fs, x = .ref a ∧ H2 a = some (.ins C dx fs) ∧ Cls K C ∧ NoAttr K C f ∧ fs.length < 1000 ∧ D.nx σ (upd H2 a (.ins C dx (putF f y fs)))
theorem w_sfld {ta tv : TE} {f : Str} {D : Ends} {σ : L2.St} (h : tv σ H fun y H1 => ta σ H1 fun x H2 => KSFld K f D σ y x H2) : sFld K ta tv f D σ H := h
theorem w_ksfld {f : Str} {D : Ends} {σ : L2.St} {y : V} {a C dx : Addr} {fs : List (Str × V)} (ho : H a = some (.ins C dx fs)) (c : Cls K C) (n : NoAttr K C f) (hl : fs.length < 1000) (q : ∀ H2, Chg H H2 a (.ins C dx (putF f y fs)) → D.nx σ H2) : KSFld K f D σ y (.ref a) H :=
  ⟨a, C, dx, fs, rfl, ho, c, n, hl, q _ Chg.of⟩
end
section
variable {K : PySem.W.Frag} {H H1 : Hp} {a tP : Addr} {xs : List V}
theorem tab_ne {o : HO} (e : H a = some o) (t : GxR.TabG H tP) (ho : ∀ ps, o ≠ .tbl ps) : a ∉ [tP] := fun z => by
  obtain ⟨ps, h, _⟩ := t
  rw [List.mem_singleton.mp z, h] at e
  exact ho ps (Option.some.inj e).symm
theorem tabT (h : SqT K H a xs) (t : GxR.TabG H tP) (u : Upt [tP] H H1) : SqT K H1 a xs := by
  rcases h with (h | ⟨q, h⟩) | h
  · exact .inl (.inl (u a _ (tab_ne h t fun _ z => by cases z) h))
  · exact .inl (.inr ⟨q, u a _ (tab_ne h t fun _ z => by cases z) h⟩)
  · exact .inr h
theorem tabL (h : SqL K H a xs) (t : GxR.TabG H tP) (u : Upt [tP] H H1) : SqL K H1 a xs := by
  rcases h with (h | ⟨q, h⟩) | h
  · exact .inl (.inl (u a _ (tab_ne h t fun _ z => by cases z) h))
  · exact .inl (.inr ⟨q, u a _ (tab_ne h t fun _ z => by cases z) h⟩)
  · exact .inr h
theorem tabO {o : HO} (e : H a = some o) (ho : ∀ ps, o ≠ .tbl ps) (t : GxR.TabG H tP) (u : Upt [tP] H H1) : H1 a = some o := u a o (tab_ne e t ho) e
theorem tabG {S : List Addr} (t : GxR.TabG H tP) (n : tP ∉ S) (u : Upt S H H1) : GxR.TabG H1 tP := let ⟨ps, e, h⟩ := t; ⟨ps, u tP _ n e, h⟩
end
theorem w_inT {K : PySem.W.Frag} {H : Hp} {Q : VK} {x : V} {p : Addr} {xs : List V} {b : Bool} (h : H p = some (.tup xs)) (fx : flatV x = true) (fs : xs.all flatV = true) (e : inV x xs = b) (q : Q (.bl b) H) : rIn K false x (.ref p) H Q := ⟨p, xs, rfl, .inr (SqT.of h), fx, fs, by subst e; exact q⟩
theorem offT {K : PySem.W.Frag} {H H1 : Hp} {a b : Addr} {xs ys : List V} (h : SqT K H a xs) (e : H b = some (.lst ys)) (u : Upt [b] H H1) : SqT K H1 a xs := by
  rcases h with (h | ⟨q, h⟩) | h
  · exact .inl (.inl (u.at1 (fun z => by rw [z, e] at h; cases h) h))
  · exact .inl (.inr ⟨q, u.at1 (fun z => by rw [z, e] at h; cases h) h⟩)
  · exact .inr h
theorem w_slT {K : PySem.W.Frag} {σ : L2.St} {H : Hp} {Q : VK} {a : Addr} {xs : List V} {n : Nat} {i : Int} (hv : σ[n]? = some (some (.ref a))) (h : SqT K H a xs) (hn : ¬ (HT.sIx xs.length 0 (some i) = 0 ∧ HT.sIx xs.length xs.length none = xs.length)) (q : ∀ p H2, New H H2 p (.tup (cutV xs (some i) none)) → Q (.ref p) H2) :
    tSl (rSlT K) (tVar n) (tPart (tC (.int i))) tNoPart σ H Q := ⟨_, hv, i, rfl, a, xs, rfl, h, hn, fun p hp => q p _ (New.of hp)⟩
theorem Upt.chgNew {H H1 H2 : Hp} {p : Addr} {o : HO} (U : Upt [] H H1) (z : H p = none) (g : Chg H1 H2 p o) : Upt [] H H2 := fun b ob nb e => g.keep.at1 (fun q => by rw [q, z] at e; cases e) (U b ob nb e)
/-! ### methods as they stand -/
def DefM (K : PySem.W.Frag) (x qual : Str) (st : Stmt) (dvs : List V) (f : Addr) (fd : FuncData) : Prop := FunD K x qual (defArgs st) (defBody st) (defScope st) dvs [] f fd
def MetAt (K : PySem.W.Frag) (C : Addr) (x qual : Str) (st : Stmt) : Prop := ∃ f fd, DefM K x qual st [] f fd ∧ Cls K C ∧ Meth K C x f
def PrpAt (K : PySem.W.Frag) (C : Addr) (x qual : Str) (st : Stmt) : Prop := ∃ p f fd, DefM K x qual st [] f fd ∧ Cls K C ∧ PropOf K C x p f
section
variable {P : Program} {w : World} {K : PySem.W.Frag} {mg : Str → Option Value} {base : Heap}
theorem mkM {C : Addr} {x qual : Str} {st : Stmt} {N ps : List Str} {k : Nat} {sp : Sp} (d : MetAt K C x qual st) (S : FnScope N ps (defScope st))
    (hb : ∀ (kV doc pm : Value) (an : Option Addr) (cdv ct : Value) (us : List Value), us.length = ps.length → bindArgs (PySem.W.fnOf x qual (defArgs st) (defBody st) (defScope st) .none kV doc pm an cdv ct) ⟨us, []⟩ = pure (ps.zip us))
    (len : ∀ vs H Q E, sp vs H Q E → vs.length = ps.length)
    (body : ∀ (f : Addr) (cdv : Value) (A : Around) (outer : List Env) (s : Shared) (H : Hp) (vs : List V) (Q : VK) (E : XK), Room k (A.deeper (envOfC qual (defScope st) s.heap.objs.size f cdv)) → sp vs H Q E →
      ∃ t, PSs (cxOf C8.CX0 P w K mg base N qual (defScope st) f cdv A outer s H E).nox (defBody st) t ∧ t { nx := fun _ H' => Q .non H', rt := Q } (start N vs) H) : C8.Met P w K mg base (k + 1) C x sp [] := by
  obtain ⟨f, fd, F, hc, hm⟩ := d
  have F : FunD K x qual (defArgs st) (defBody st) (defScope st) [] [] f fd := F
  exact ⟨f, fd, ps, [], hc, hm, F.ok S len (fun cdv A outer s H vs Q E hr hsp => let ⟨t, h, q⟩ := body f cdv A outer s H vs Q E hr hsp; ⟨t, h.nox, q⟩), F.bindsN hb, .nil⟩
theorem mkP {C : Addr} {x qual : Str} {st : Stmt} {N ps : List Str} {k : Nat} {sp : Sp} (d : PrpAt K C x qual st) (S : FnScope N ps (defScope st))
    (hb : ∀ (kV doc pm : Value) (an : Option Addr) (cdv ct : Value) (us : List Value), us.length = ps.length → bindArgs (PySem.W.fnOf x qual (defArgs st) (defBody st) (defScope st) .none kV doc pm an cdv ct) ⟨us, []⟩ = pure (ps.zip us))
    (len : ∀ vs H Q E, sp vs H Q E → vs.length = ps.length)
    (body : ∀ (f : Addr) (cdv : Value) (A : Around) (outer : List Env) (s : Shared) (H : Hp) (vs : List V) (Q : VK) (E : XK), Room k (A.deeper (envOfC qual (defScope st) s.heap.objs.size f cdv)) → sp vs H Q E →
      ∃ t, PSs (cxOf C8.CX0 P w K mg base N qual (defScope st) f cdv A outer s H E).nox (defBody st) t ∧ t { nx := fun _ H' => Q .non H', rt := Q } (start N vs) H) : Prp P w K mg base (k + 1) C x sp := by
  obtain ⟨p, f, fd, F, hc, hm⟩ := d
  have F : FunD K x qual (defArgs st) (defBody st) (defScope st) [] [] f fd := F
  exact ⟨p, f, fd, ps, hc, hm, F.ok S len (fun cdv A outer s H vs Q E hr hsp => let ⟨t, h, q⟩ := body f cdv A outer s H vs Q E hr hsp; ⟨t, h.nox, q⟩), F.bindsN hb⟩
/-- called by keywords alone -/
theorem mkK {x : Str} {st : Stmt} {N ps ks : List Str} {k : Nat} {sp : Sp} {f : Addr} {fd : FuncData} (F : FunD K x x (defArgs st) (defBody st) (defScope st) [] [] f fd) (hm : mg x = some (.ref f)) (S : FnScope N ps (defScope st)) (g : {α : Type} → List α → List α)
    (hrel : ∀ {zs : List V} {ws : List Value}, Vals zs ws → Vals (g zs) (g ws))
    (hb : ∀ (kV doc pm : Value) (an : Option Addr) (cdv ct : Value) (ws : List Value), ws.length = ks.length → bindArgs (PySem.W.fnOf x x (defArgs st) (defBody st) (defScope st) .none kV doc pm an cdv ct) ⟨[], ks.zip ws⟩ = pure (ps.zip (g ws)))
    (len : ∀ vs H Q E, sp vs H Q E → vs.length = ps.length)
    (body : ∀ (f : Addr) (cdv : Value) (A : Around) (outer : List Env) (s : Shared) (H : Hp) (vs : List V) (Q : VK) (E : XK), Room k (A.deeper (envOfC x (defScope st) s.heap.objs.size f cdv)) → sp vs H Q E →
      ∃ t, PSs (cxOf C8.CX0 P w K mg base N x (defScope st) f cdv A outer s H E).nox (defBody st) t ∧ t { nx := fun _ H' => Q .non H', rt := Q } (start N vs) H) : CalK P w K mg base (k + 1) x sp 0 ks (fun _ zs => g zs) := by
  refine ⟨f, fd, ps, fun _ ws => g ws, F.ok S len (fun cdv A outer s H vs Q E hr hsp => let ⟨t, h, q⟩ := body f cdv A outer s H vs Q E hr hsp; ⟨t, h.nox, q⟩), hm, F.kp, fun s us ws _ l1 l2 => ?_, fun _ r => hrel r⟩
  cases us with
  | nil =>
    obtain ⟨oc, od, dV, kV, doc, pm, an, cdv, ct, osl, rfl, lk, hcd, hD, hK⟩ := F.ex
    rcases hD with ⟨_, rfl⟩ | ⟨e, _⟩
    · exact .of_eq (hb kV doc pm an cdv ct ws l2)
    · exact absurd rfl e
  | cons _ _ => cases l1
/-- a def with keyword-only parameters, under its name -/
def DefKw (K : PySem.W.Frag) (mg : Str → Option Value) (x : Str) (st : Stmt) (kwd : List (Str × V)) : Prop := ∃ (f : Addr) (fd : FuncData), FunD K x x (defArgs st) (defBody st) (defScope st) [] kwd f fd ∧ mg x = some (.ref f)
/-- called by positional values and all keyword-only ones -/
theorem mkKp {x : Str} {st : Stmt} {N ps ks : List Str} {kwd : List (Str × V)} {k n : Nat} {sp : Sp} (d : DefKw K mg x st kwd) (S : FnScope N ps (defScope st))
    (hb : ∀ (kV doc pm : Value) (an : Option Addr) (cdv ct : Value) (us ws : List Value), us.length = n → ws.length = ks.length → bindArgs (PySem.W.fnOf x x (defArgs st) (defBody st) (defScope st) .none kV doc pm an cdv ct) ⟨us, ks.zip ws⟩ = pure (ps.zip (us ++ ws)))
    (len : ∀ vs H Q E, sp vs H Q E → vs.length = ps.length)
    (body : ∀ (f : Addr) (cdv : Value) (A : Around) (outer : List Env) (s : Shared) (H : Hp) (vs : List V) (Q : VK) (E : XK), Room k (A.deeper (envOfC x (defScope st) s.heap.objs.size f cdv)) → sp vs H Q E →
      ∃ t, PSs (cxOf C8.CX0 P w K mg base N x (defScope st) f cdv A outer s H E).nox (defBody st) t ∧ t { nx := fun _ H' => Q .non H', rt := Q } (start N vs) H) : CalK P w K mg base (k + 1) x sp n ks (fun vs zs => vs ++ zs) := by
  obtain ⟨f, fd, F, hm⟩ := d
  refine ⟨f, fd, ps, fun us ws => us ++ ws, F.ok S len (fun cdv A outer s H vs Q E hr hsp => let ⟨t, h, q⟩ := body f cdv A outer s H vs Q E hr hsp; ⟨t, h.nox, q⟩), hm, F.kp, fun s us ws _ l1 l2 => ?_, fun r1 r2 => r1.append r2⟩
  obtain ⟨oc, od, dV, kV, doc, pm, an, cdv, ct, osl, rfl, lk, hcd, hD, hK⟩ := F.ex
  rcases hD with ⟨_, rfl⟩ | ⟨e, _⟩
  · exact .of_eq (hb kV doc pm an cdv ct us ws l1 l2)
  · exact absurd rfl e
/-- __init__ with defaults -/
theorem mkI {C f : Addr} {fd : FuncData} {x qual : Str} {st : Stmt} {N ps : List Str} {k : Nat} {sp : Sp} {dvs dvs' : List V} (F : DefM K "__init__" qual st dvs f fd) (M : Mk K C f) (hm : mg x = some (.ref C)) (S : FnScope N ps (defScope st))
    (hb : ∃ ds, Vals dvs' ds ∧ Binds K fd ps ds) (len : ∀ vs H Q E, sp vs H Q E → vs.length = ps.length)
    (body : ∀ (f : Addr) (cdv : Value) (A : Around) (outer : List Env) (s : Shared) (H : Hp) (vs : List V) (Q : VK) (E : XK), Room k (A.deeper (envOfC qual (defScope st) s.heap.objs.size f cdv)) → sp vs H Q E →
      ∃ t, PSs (cxOf C8.CX0 P w K mg base N qual (defScope st) f cdv A outer s H E).nox (defBody st) t ∧ t { nx := fun _ H' => Q .non H', rt := Q } (start N vs) H) : C8.Mak P w K mg base (k + 1) x C sp dvs' := by
  obtain ⟨ds, r, b⟩ := hb
  have F : FunD K "__init__" qual (defArgs st) (defBody st) (defScope st) dvs [] f fd := F
  exact ⟨f, fd, ps, ds, M, F.ok S len (fun cdv A outer s H vs Q E hr hsp => let ⟨t, h, q⟩ := body f cdv A outer s H vs Q E hr hsp; ⟨t, h.nox, q⟩), hm, b, r⟩
end
end Wk
set_option Elab.async false
set_option linter.all false
set_option maxRecDepth 100000
set_option maxHeartbeats 4000000
/-! Wk: a ledger of the heap's cells, and steps that keep it. -/
namespace Wk
open PySem PySem.Spec PyProof.Rows L2
/-- an address, and what is known of the object that stands there -/
abbrev Cell := Addr × (HO → Prop)
/-- the cells of L stand in H, each at an address of its own -/
structure Hd (H : Hp) (L : List Cell) : Prop where
  nd : (L.map Prod.fst).Nodup
  at_ : ∀ c ∈ L, ∃ o, H c.1 = some o ∧ c.2 o
def lstC (a : Addr) (xs : List V) : Cell := (a, fun o => o = .lst xs)
def tupC (a : Addr) (xs : List V) : Cell := (a, fun o => o = .tup xs)
def frzC (a : Addr) (xs : List V) : Cell := (a, fun o => ∃ q, o = .frz q (.lst xs))
def dctC (a : Addr) (kvs : List (Key × V)) : Cell := (a, fun o => o = .dK kvs)
def insC (a C : Addr) (fs : List (Str × V)) : Cell := (a, fun o => ∃ dx, o = .ins C dx fs)
def tblC (a : Addr) : Cell := (a, fun o => ∃ ps, o = .tbl ps ∧ TriplesOk ps.toList)
/-- L is c and M, in some order -/
inductive Pk : List Cell → Cell → List Cell → Prop
  | here {c : Cell} {L : List Cell} : Pk (c :: L) c L
  | there {x c : Cell} {L M : List Cell} : Pk L c M → Pk (x :: L) c (x :: M)
  | app {c : Cell} {Z L M : List Cell} : Pk L c M → Pk (Z ++ L) c (Z ++ M)
/-- L is the block Z and M -/
inductive PkB : List Cell → List Cell → List Cell → Prop
  | here {Z L : List Cell} : PkB (Z ++ L) Z L
  | there {x : Cell} {Z L M : List Cell} : PkB L Z M → PkB (x :: L) Z (x :: M)
  | app {Y Z L M : List Cell} : PkB L Z M → PkB (Y ++ L) Z (Y ++ M)
/-- L is A and R -/
inductive Spl : List Cell → List Cell → List Cell → Prop
  | nil {L : List Cell} : Spl L [] L
  | cons {c : Cell} {L M A R : List Cell} : Pk L c M → Spl M A R → Spl L (c :: A) R
  | blk {L M Z A R : List Cell} : PkB L Z M → Spl M A R → Spl L (Z ++ A) R
/-- A is some of L -/
inductive Sb : List Cell → List Cell → Prop
  | refl {L : List Cell} : Sb L L
  | nil {L : List Cell} : Sb [] L
  | cons {c : Cell} {L M A : List Cell} : Pk L c M → Sb A M → Sb (c :: A) L
  | drop {x : Cell} {A L : List Cell} : Sb A L → Sb A (x :: L)
  | blk {L M Z A : List Cell} : PkB L Z M → Sb A M → Sb (Z ++ A) L
  | left {Z L : List Cell} : Sb Z (Z ++ L)
  | right {A Z L : List Cell} : Sb A L → Sb A (Z ++ L)
theorem Pk.perm {L M : List Cell} {c : Cell} (h : Pk L c M) : L.Perm (c :: M) := by
  induction h with
  | here => exact .refl _
  | there _ ih => exact (List.Perm.cons _ ih).trans (List.Perm.swap _ _ _)
  | app _ ih => exact (List.Perm.append_left _ ih).trans List.perm_middle
theorem PkB.perm {L Z M : List Cell} (h : PkB L Z M) : L.Perm (Z ++ M) := by
  induction h with
  | here => exact .refl _
  | there _ ih => exact (List.Perm.cons _ ih).trans List.perm_middle.symm
  | @app Y Z L M _ ih => exact (List.Perm.append_left _ ih).trans (by rw [← List.append_assoc, ← List.append_assoc]; exact List.Perm.append_right _ List.perm_append_comm)
theorem Spl.perm {L A R : List Cell} (h : Spl L A R) : L.Perm (A ++ R) := by
  induction h with
  | nil => exact .refl _
  | cons p _ ih => exact p.perm.trans (List.Perm.cons _ ih)
  | blk p _ ih => exact p.perm.trans (by rw [List.append_assoc]; exact List.Perm.append_left _ ih)
theorem Hd.perm {H : Hp} {L M : List Cell} (h : Hd H L) (p : L.Perm M) : Hd H M := ⟨(p.map Prod.fst).nodup_iff.mp h.nd, fun c hc => h.at_ c (p.mem_iff.mpr hc)⟩
theorem Hd.tail {H : Hp} {c : Cell} {L : List Cell} (h : Hd H (c :: L)) : Hd H L := ⟨(List.nodup_cons.mp h.nd).2, fun d hd => h.at_ d (List.mem_cons_of_mem _ hd)⟩
theorem Hd.app {H : Hp} {A R : List Cell} (h : Hd H (A ++ R)) : Hd H R := by
  induction A with
  | nil => exact h
  | cons c A ih => exact ih h.tail
theorem Hd.left {H : Hp} {A R : List Cell} (h : Hd H (A ++ R)) : Hd H A := (h.perm List.perm_append_comm).app
theorem Hd.pk {H : Hp} {L M : List Cell} {c : Cell} (h : Hd H L) (p : Pk L c M) : Hd H (c :: M) := h.perm p.perm
theorem Hd.spl {H : Hp} {L A R : List Cell} (h : Hd H L) (p : Spl L A R) : Hd H (A ++ R) := h.perm p.perm
theorem Hd.sb {H : Hp} {L A : List Cell} (h : Hd H L) (s : Sb A L) : Hd H A := by
  have key : ∀ {A L : List Cell}, Sb A L → ∃ R, L.Perm (A ++ R) := by
    intro A L s
    induction s with
    | refl => exact ⟨[], by simp⟩
    | nil => exact ⟨_, List.Perm.refl _⟩
    | cons p _ ih => obtain ⟨R, q⟩ := ih; exact ⟨R, p.perm.trans (List.Perm.cons _ q)⟩
    | @drop x A L _ ih => obtain ⟨R, q⟩ := ih; exact ⟨x :: R, (List.Perm.cons x q).trans List.perm_middle.symm⟩
    | blk p _ ih => obtain ⟨R, q⟩ := ih; exact ⟨R, p.perm.trans (by rw [List.append_assoc]; exact List.Perm.append_left _ q)⟩
    | left => exact ⟨_, List.Perm.refl _⟩
    | @right A Z L _ ih => obtain ⟨R, q⟩ := ih; exact ⟨Z ++ R, (List.Perm.append_left Z q).trans (by rw [← List.append_assoc, ← List.append_assoc]; exact List.Perm.append_right _ List.perm_append_comm)⟩
  obtain ⟨R, q⟩ := key s
  exact (h.perm q).left
theorem Hd.get {H : Hp} {L : List Cell} {c : Cell} (h : Hd H L) (m : c ∈ L) : ∃ o, H c.1 = some o ∧ c.2 o := h.at_ c m
section
variable {H H2 : Hp} {L M : List Cell} {K : PySem.W.Frag} {a b C : Addr} {xs ys : List V} {fs : List (Str × V)} {kvs : List (Key × V)} {o : HO}
theorem Hd.lst (h : Hd H L) (m : lstC a xs ∈ L) : H a = some (.lst xs) := by obtain ⟨o, e, q⟩ := h.at_ _ m; cases (show o = .lst xs from q); exact e
theorem Hd.tup (h : Hd H L) (m : tupC a xs ∈ L) : H a = some (.tup xs) := by obtain ⟨o, e, q⟩ := h.at_ _ m; cases (show o = .tup xs from q); exact e
theorem Hd.dct (h : Hd H L) (m : dctC a kvs ∈ L) : H a = some (.dK kvs) := by obtain ⟨o, e, q⟩ := h.at_ _ m; cases (show o = .dK kvs from q); exact e
theorem Hd.ins (h : Hd H L) (m : insC a C fs ∈ L) : ∃ dx, H a = some (.ins C dx fs) := by obtain ⟨o, e, dx, q⟩ := h.at_ _ m; subst q; exact ⟨dx, e⟩
theorem Hd.sqL (h : Hd H L) (m : lstC a xs ∈ L) : SqL K H a xs := SqL.of (h.lst m)
theorem Hd.sqF (h : Hd H L) (m : frzC a xs ∈ L) : SqL K H a xs := by obtain ⟨o, e, q, z⟩ := h.at_ _ m; subst z; exact .inl (.inr ⟨q, e⟩)
theorem Hd.sqT (h : Hd H L) (m : tupC a xs ∈ L) : SqT K H a xs := SqT.of (h.tup m)
theorem Hd.tbl (h : Hd H L) (m : tblC a ∈ L) : GxR.TabG H a := by obtain ⟨o, e, ps, q, t⟩ := h.at_ _ m; subst q; exact ⟨ps, e, t⟩
theorem Hd.ne {c d : Cell} (h : Hd H (c :: L)) (m : d ∈ L) : d.1 ≠ c.1 := fun e => (List.nodup_cons.mp h.nd).1 (e ▸ List.mem_map_of_mem m)
theorem Hd.new {P : HO → Prop} {p : Addr} (h : Hd H L) (n : New H H2 p o) (q : P o) : Hd H2 ((p, P) :: L) := by
  refine ⟨List.nodup_cons.mpr ⟨fun z => ?_, h.nd⟩, fun c hc => ?_⟩
  · obtain ⟨c, hc, e⟩ := List.mem_map.mp z
    obtain ⟨u, hu, _⟩ := h.at_ c hc
    rw [e, n.no] at hu
    cases hu
  · rcases List.mem_cons.mp hc with rfl | hc
    · exact ⟨o, n.at_, q⟩
    · obtain ⟨u, hu, z⟩ := h.at_ c hc
      exact ⟨u, n.keep.at0 hu, z⟩
theorem Hd.newL {p : Addr} (h : Hd H L) (n : New H H2 p (.lst xs)) : Hd H2 (lstC p xs :: L) := h.new n rfl
theorem Hd.newT {p : Addr} (h : Hd H L) (n : New H H2 p (.tup xs)) : Hd H2 (tupC p xs :: L) := h.new n rfl
theorem Hd.newD {p : Addr} (h : Hd H L) (n : New H H2 p (.dK kvs)) : Hd H2 (dctC p kvs :: L) := h.new n rfl
/-- what a change of the cells S leaves of L -/
theorem Hd.upt {S : List Addr} (h : Hd H L) (u : Upt S H H2) (hs : ∀ c ∈ L, c.1 ∉ S) : Hd H2 L := ⟨h.nd, fun c hc => let ⟨o, e, q⟩ := h.at_ c hc; ⟨o, u _ _ (hs c hc) e, q⟩⟩
theorem Hd.upt0 (h : Hd H L) (u : Upt [] H H2) : Hd H2 L := h.upt u fun _ _ => by simp
theorem Hd.chg {c c' : Cell} (h : Hd H L) (p : Pk L c M) (g : Chg H H2 c.1 o) (e : c'.1 = c.1) (q : c'.2 o) : Hd H2 (c' :: M) := by
  have h1 := h.pk p
  have nd := List.nodup_cons.mp h1.nd
  refine ⟨List.nodup_cons.mpr ⟨by rw [e]; exact nd.1, nd.2⟩, fun d hd => ?_⟩
  rcases List.mem_cons.mp hd with rfl | hd
  · exact ⟨o, by rw [e]; exact g.at_, q⟩
  · obtain ⟨u, hu, z⟩ := h1.at_ d (List.mem_cons_of_mem _ hd)
    exact ⟨u, g.keep.at1 (h1.ne hd) hu, z⟩
theorem Hd.chgL (h : Hd H L) (p : Pk L (lstC a xs) M) (g : Chg H H2 a (.lst ys)) : Hd H2 (lstC a ys :: M) := h.chg (c := lstC a xs) p g rfl rfl
theorem Hd.chgD {kvs' : List (Key × V)} (h : Hd H L) (p : Pk L (dctC a kvs) M) (g : Chg H H2 a (.dK kvs')) : Hd H2 (dctC a kvs' :: M) := h.chg (c := dctC a kvs) p g rfl rfl
theorem Hd.chgI {dx : Addr} {fs' : List (Str × V)} (h : Hd H L) (p : Pk L (insC a C fs) M) (g : Chg H H2 a (.ins C dx fs')) : Hd H2 (insC a C fs' :: M) := h.chg (c := insC a C fs) p g rfl ⟨dx, rfl⟩
/-- cells that change by a contract over addresses -/
theorem Hd.put {S : List Addr} {A B R : List Cell} (h : Hd H (A ++ R)) (u : Upt S H H2) (hs : ∀ a ∈ S, a ∈ A.map Prod.fst) (hB : Hd H2 B) (hk : ∀ c ∈ B, c.1 ∈ A.map Prod.fst ∨ H c.1 = none) : Hd H2 (B ++ R) := by
  have hd : ∀ c ∈ R, c.1 ∉ A.map Prod.fst := fun c hc z => by
    have nd := h.nd
    rw [List.map_append] at nd
    exact (List.nodup_append.mp nd).2.2 _ z _ (List.mem_map_of_mem hc) rfl
  have hR : Hd H2 R := h.app.upt u fun c hc z => hd c hc (hs _ z)
  refine ⟨?_, fun c hc => (List.mem_append.mp hc).elim (hB.at_ c) (hR.at_ c)⟩
  rw [List.map_append]
  refine List.nodup_append.mpr ⟨hB.nd, hR.nd, fun x hx y hy e => ?_⟩
  subst e
  obtain ⟨c, hc, rfl⟩ := List.mem_map.mp hx
  obtain ⟨d, hdm, e⟩ := List.mem_map.mp hy
  rcases hk c hc with z | z
  · exact hd d hdm (e ▸ z)
  · obtain ⟨o, ho, _⟩ := h.app.at_ d hdm
    rw [e, z] at ho
    cases ho
theorem Hd.one {c : Cell} {o : HO} (e : H c.1 = some o) (q : c.2 o) : Hd H [c] := ⟨by simp, fun d hd => by rw [List.mem_singleton.mp hd]; exact ⟨o, e, q⟩⟩
theorem Hd.two {c d : Cell} {o u : HO} (e : H c.1 = some o) (q : c.2 o) (e' : H d.1 = some u) (q' : d.2 u) (n : c.1 ≠ d.1) : Hd H [c, d] := by
  refine ⟨by simp [n], fun x hx => ?_⟩
  rcases List.mem_cons.mp hx with rfl | hx
  · exact ⟨o, e, q⟩
  · rw [List.mem_singleton.mp hx]; exact ⟨u, e', q'⟩
/-- data -/
theorem Dn.lt {n : Nat} {ds : List PyData} (h : Hd H L) (m : lstC a xs ∈ L) (hl : xs.length ≤ 100000) (p : Paired (Dn K [] H n) xs ds) : Dn K [] H (n + 1) (.ref a) (.list ds) := Dn.lst (h.sqL m) (by simp) hl p
theorem Dn.tp {n : Nat} {ds : List PyData} (h : Hd H L) (m : tupC a xs ∈ L) (hl : xs.length ≤ 100000) (p : Paired (Dn K [] H n) xs ds) : Dn K [] H (n + 1) (.ref a) (.tuple ds) := Dn.tup (h.sqT m) (by simp) hl p
end
/-! ### steps -/
section
variable {K : PySem.W.Frag} {σ : L2.St} {H : Hp} {Q : VK} {L M : List Cell} {P : Hp → Prop} {D : Ends} {a b p C : Addr} {xs ys : List V} {i : Int} {n : Nat} {v x y : V} {f : Str} {fs : List (Str × V)} {kvs : List (Key × V)} {E : XK} {sp : Sp} {dvs : List V}
theorem g_lst (hh : Hd H L) (hs : n ≤ sizeLine) (q : ∀ p H2, Hd H2 (lstC p xs :: L) → Q (.ref p) H2) : KNew n H (.lst xs) Q := w_new hs fun p H2 n2 => q p H2 (hh.newL n2)
theorem g_tup (hh : Hd H L) (hs : n ≤ sizeLine) (q : ∀ p H2, Hd H2 (tupC p xs :: L) → Q (.ref p) H2) : KNew n H (.tup xs) Q := w_new hs fun p H2 n2 => q p H2 (hh.newT n2)
theorem g_dict (hh : Hd H L) (q : ∀ p H2, Hd H2 (dctC p [] :: L) → Q (.ref p) H2) : tDNewK σ H Q := w_dnew fun p H2 n2 => q p H2 (hh.newD n2)
theorem g_set (hh : Hd H L) (k : Pk L (lstC p xs) M) (hn : ixN xs.length i = some n) (q : ∀ H2, Hd H2 (lstC p (xs.set n v) :: M) → P H2) : rSetL (.ref p) (.int i) v H P := w_setI ((hh.pk k).lst (List.mem_cons_self ..)) hn fun H2 g => q H2 (hh.chgL k g)
theorem g_append (hh : Hd H L) (k : Pk L (lstC p xs) M) (hz : xs.length < sizeLine) (q : ∀ H2, Hd H2 (lstC p (xs ++ [y]) :: M) → Q .non H2) : KBM K "list" rAppend (tCons (tC y) tNil) σ (.ref p) H Q := by
  have e := (hh.pk k).lst (List.mem_cons_self ..)
  exact w_kbm (ty_list (SqL.of e)) (w_append e hz fun H2 g => q H2 (hh.chgL k g))
theorem g_app (hh : Hd H L) (k : Pk L (lstC p xs) M) (hz : xs.length < sizeLine) (q : ∀ H2, Hd H2 (lstC p (xs ++ [y]) :: M) → Q .non H2) : rAppend (.ref p) [y] H Q := w_append ((hh.pk k).lst (List.mem_cons_self ..)) hz fun H2 g => q H2 (hh.chgL k g)
theorem g_kbm {g : V → List V → Hp → VK → Prop} {t : TA} (hh : Hd H L) (m : lstC p xs ∈ L) (h : t σ H fun zs H2 => g (.ref p) zs H2 Q) : KBM K "list" g t σ (.ref p) H Q := w_kbm (ty_list (hh.sqL m)) h
theorem g_kbm0 {g : V → List V → Hp → VK → Prop} (hh : Hd H L) (m : lstC p xs ∈ L) (h : g (.ref p) [] H Q) : KBM0 K "list" g (.ref p) H Q := w_kbm0 (ty_list (hh.sqL m)) h
theorem g_popAt (hh : Hd H L) (k : Pk L (lstC p xs) M) (hn : n < xs.length) (hb : n < 2 ^ 62) (hv : xs[n]? = some y) (q : ∀ H2, Hd H2 (lstC p (xs.eraseIdx n) :: M) → Q y H2) : rPopAt (.ref p) [.int (n : Int)] H Q := w_popAt ((hh.pk k).lst (List.mem_cons_self ..)) hn hb hv fun H2 g => q H2 (hh.chgL k g)
theorem g_listL (hh : Hd H L) (h : SqL K H p ys) (q : ∀ l H2, Hd H2 (lstC l ys :: L) → Q (.ref l) H2) : CB (rListOf K) [.ref p] H Q := c_listL h fun l H2 n2 => q l H2 (hh.newL n2)
theorem g_listT (hh : Hd H L) (h : SqT K H p ys) (q : ∀ l H2, Hd H2 (lstC l ys :: L) → Q (.ref l) H2) : CB (rListOf K) [.ref p] H Q := c_listT h fun l H2 n2 => q l H2 (hh.newL n2)
theorem g_tupL (hh : Hd H L) (h : SqL K H p ys) (q : ∀ l H2, Hd H2 (tupC l ys :: L) → Q (.ref l) H2) : CB (rTupOf K) [.ref p] H Q := c_tupL h fun l H2 n2 => q l H2 (hh.newT n2)
theorem g_fld (hh : Hd H L) (m : insC a C fs ∈ L) (c : Cls K C) (n : NoAttr K C f) (l : fs.lookup f = some v) (q : Q v H) : KFld K f (.ref a) H Q := let ⟨_, e⟩ := hh.ins m; w_kfld e c n l q
theorem g_sfld (hh : Hd H L) (k : Pk L (insC a C fs) M) (c : Cls K C) (n : NoAttr K C f) (hl : fs.length < 1000) (q : ∀ H2, Hd H2 (insC a C (putF f y fs) :: M) → D.nx σ H2) : KSFld K f D σ y (.ref a) H :=
  let ⟨_, e⟩ := (hh.pk k).ins (List.mem_cons_self ..)
  w_ksfld e c n hl fun H2 g => q H2 (hh.chgI k g)
theorem g_meth {m : Str} {t : TA} (hh : Hd H L) (k : insC a C fs ∈ L) (l : fs.lookup m = none) (h : t σ H fun vs H2 => sp (.ref a :: (vs ++ dvs)) H2 Q E) : KMeth C m sp dvs E t σ Q (.ref a) H := let ⟨_, e⟩ := hh.ins k; w_kmeth e l h
theorem g_prop (hh : Hd H L) (k : insC a C fs ∈ L) (h : sp [.ref a] H Q E) : KProp C sp E Q (.ref a) H := let ⟨_, e⟩ := hh.ins k; w_kprop e h
theorem g_make {vs : List V} (hh : Hd H L) (q : ∀ x H2, Hd H2 (insC x C [] :: L) → sp (.ref x :: (vs ++ dvs)) H2 (fun v H2 => v = .non ∧ Q (.ref x) H2) E) : KMake C sp dvs E Q vs H := fun x dx hx hdx ne => by
  have u : Upt [] H (upd (upd H dx (.own x)) x (.ins C dx [])) := fun b o _ e => by rw [upd_ne (ne_of_none e hx), upd_ne (ne_of_none e hdx)]; exact e
  refine q x _ ((hh.new (H2 := upd (upd H dx (.own x)) x (.ins C dx [])) (p := x) (o := .ins C dx []) (P := fun o => ∃ dx, o = .ins C dx []) ⟨hx, upd_same, u⟩ ⟨dx, rfl⟩))
theorem g_cat (hh : Hd H L) (h1 : lstC a xs ∈ L) (h2 : lstC b ys ∈ L) (hz : xs.length + ys.length ≤ sizeLine) (q : ∀ p H2, Hd H2 (lstC p (xs ++ ys) :: L) → Q (.ref p) H2) : rCat (.ref a) (.ref b) H Q := w_cat (hh.lst h1) (hh.lst h2) hz fun p H2 n2 => q p H2 (hh.newL n2)
theorem g_rep {k : Int} (hh : Hd H L) (h1 : lstC a xs ∈ L) (h2 : -(2 ^ 63) ≤ k) (h3 : k < 2 ^ 63) (hz : xs.length * k.toNat ≤ sizeLine) (q : ∀ p H2, Hd H2 (lstC p (List.replicate k.toNat xs).flatten :: L) → Q (.ref p) H2) : rRep (.ref a) (.int k) H Q := w_rep (hh.lst h1) h2 h3 hz fun p H2 n2 => q p H2 (hh.newL n2)
theorem g_ixI {ns : List Int} {k : Nat} (hh : Hd H L) (m : lstC p (ns.map V.int) ∈ L) (hk : k < ns.length) (q : ∀ z, ns[k]? = some z → Q (.int z) H) : rIxL K (.ref p) (.int k) H Q :=
  w_ixL (hh.sqL m) (atI_nat (by rw [List.getElem?_map, List.getElem?_eq_getElem hk]; rfl)) (q _ (List.getElem?_eq_getElem hk))
theorem g_ixIT {ns : List Int} {k : Nat} (hh : Hd H L) (m : tupC p (ns.map V.int) ∈ L) (hk : k < ns.length) (q : ∀ z, ns[k]? = some z → Q (.int z) H) : rIxT K (.ref p) (.int k) H Q :=
  w_ixT (hh.sqT m) (atI_nat (by rw [List.getElem?_map, List.getElem?_eq_getElem hk]; rfl)) (q _ (List.getElem?_eq_getElem hk))
theorem g_setI {ns : List Int} {k : Nat} {z : Int} (hh : Hd H L) (m : Pk L (lstC p (ns.map V.int)) M) (hk : k < ns.length) (q : ∀ H2, Hd H2 (lstC p ((ns.set k z).map V.int) :: M) → P H2) : rSetL (.ref p) (.int k) (.int z) H P :=
  g_set hh m (n := k) (by rw [List.length_map]; exact Evl.ixN_nat hk) fun H2 h2 => q H2 (by rw [List.map_set]; exact h2)
theorem g_inT {r : Bool} (hh : Hd H L) (h : tupC p xs ∈ L) (fx : flatV x = true) (fs : xs.all flatV = true) (e : inV x xs = r) (q : Q (.bl r) H) : rIn K false x (.ref p) H Q := w_inT (hh.tup h) fx fs e q
theorem g_kapp (hh : Hd H L) (k : Pk L (lstC p xs) M) (hz : xs.length < sizeLine) (q : ∀ H2, Hd H2 (lstC p (xs ++ [y]) :: M) → P H2) : KApp p P y H := w_kapp ((hh.pk k).lst (List.mem_cons_self ..)) hz fun H2 g => q H2 (hh.chgL k g)
theorem g_isiT2 {t A B : String} {q1 q2 r : Bool} {tp : Addr} (hh : Hd H L) (ht : tupC tp [.ty A, .ty B] ∈ L) (ty : TyX K H x (.type t)) (ha : kitB t A = some q1) (hb : kitB t B = some q2) (hr : (q1 || q2) = r) (q : Q (.bl r) H) : CB (rIsiT K) [x, .ref tp] H Q := c_isiT2 (hh.tup ht) ty ha hb hr q
end
section
variable {K : PySem.W.Frag} {σ : L2.St} {H : Hp} {Q : VK} {L : List Cell} {te : TE} {n m : Nat} {j : Int} {a : Addr} {xs : List V}
theorem g_lcR (hh : Hd H L) (hj : j = (m : Int)) (hb : m ≤ 1000000) (Pv : Nat → Addr → Hp → Prop) (h0 : ∀ D H1, Hd H1 (lstC D [] :: L) → Pv 0 D H1)
    (hs : ∀ (i : Nat) D H, i < m → Pv i D H → te ((σ.set n none).set n (some (.int (i : Int)))) H (KApp D (Pv (i + 1) D)))
    (hd : ∀ D H, Pv m D H → Q (.ref D) H) : KLcR (gName n) tYes te [n] σ Q [.int j] H := lc_R hj hb Pv (fun D H1 nn => h0 D H1 (hh.newL nn)) hs hd
theorem g_lcL (hh : Hd H L) (h : SqL K H a xs) (Pv : Nat → Addr → Hp → Prop) (h0 : ∀ D H1, Hd H1 (lstC D [] :: L) → Pv 0 D H1) (hl : ∀ i D H, i ≤ xs.length → Pv i D H → SqL K H a xs)
    (hs : ∀ (i : Nat) x D H, xs[i]? = some x → Pv i D H → te ((σ.set n none).set n (some x)) H (KApp D (Pv (i + 1) D)))
    (hd : ∀ D H, Pv xs.length D H → Q (.ref D) H) : KLcL K (gName n) tYes te [n] σ Q (.ref a) H := lc_L h Pv (fun D H1 nn => h0 D H1 (hh.newL nn)) hl hs hd
end
/-! ### data as blocks of cells -/
/-- the block Z holds the datum d at v -/
def Zc (K : PySem.W.Frag) (Z : List Cell) (n : Nat) (v : V) (d : PyData) : Prop := ∀ H, Hd H Z → Dn K [] H n v d
theorem same_nodup (A : List Addr) : ∃ B : List Addr, B.Nodup ∧ ∀ a, a ∈ A ↔ a ∈ B := by
  induction A with
  | nil => exact ⟨[], List.nodup_nil, fun a => Iff.rfl⟩
  | cons x A ih =>
    obtain ⟨B, h1, h2⟩ := ih
    by_cases h : x ∈ B
    · exact ⟨B, h1, fun a => by rw [List.mem_cons, h2]; exact ⟨fun z => z.elim (fun e => e ▸ h) id, .inr⟩⟩
    · exact ⟨x :: B, List.nodup_cons.mpr ⟨h, h1⟩, fun a => by rw [List.mem_cons, List.mem_cons, h2]⟩
section
variable {K : PySem.W.Frag} {S : List Addr} {H H' : Hp} {a : Addr} {xs : List V}
/-- H' has what H has at A -/
def Agr (A : List Addr) (H H' : Hp) : Prop := ∀ b ∈ A, ∀ o, H b = some o → H' b = some o
theorem SqL.addr (h : SqL K H a xs) : ∃ A : List Addr, (∀ b ∈ A, b = a ∧ ∃ o, H b = some o) ∧ ∀ H', Agr A H H' → SqL K H' a xs := by
  rcases h with (h | ⟨q, h⟩) | h
  · exact ⟨[a], fun b hb => by rw [List.mem_singleton.mp hb]; exact ⟨rfl, _, h⟩, fun H' e => .inl (.inl (e a (List.mem_singleton.mpr rfl) _ h))⟩
  · exact ⟨[a], fun b hb => by rw [List.mem_singleton.mp hb]; exact ⟨rfl, _, h⟩, fun H' e => .inl (.inr ⟨q, e a (List.mem_singleton.mpr rfl) _ h⟩)⟩
  · exact ⟨[], fun b hb => absurd hb (List.not_mem_nil), fun H' _ => .inr h⟩
theorem SqT.addr (h : SqT K H a xs) : ∃ A : List Addr, (∀ b ∈ A, b = a ∧ ∃ o, H b = some o) ∧ ∀ H', Agr A H H' → SqT K H' a xs := by
  rcases h with (h | ⟨q, h⟩) | h
  · exact ⟨[a], fun b hb => by rw [List.mem_singleton.mp hb]; exact ⟨rfl, _, h⟩, fun H' e => .inl (.inl (e a (List.mem_singleton.mpr rfl) _ h))⟩
  · exact ⟨[a], fun b hb => by rw [List.mem_singleton.mp hb]; exact ⟨rfl, _, h⟩, fun H' e => .inl (.inr ⟨q, e a (List.mem_singleton.mpr rfl) _ h⟩)⟩
  · exact ⟨[], fun b hb => absurd hb (List.not_mem_nil), fun H' _ => .inr h⟩
theorem paired_addr {n : Nat} (F : ∀ v d, Dn K S H n v d → ∃ A : List Addr, (∀ b ∈ A, b ∉ S ∧ ∃ o, H b = some o) ∧ ∀ H', Agr A H H' → Dn K [] H' n v d) : ∀ {xs : List V} {ds : List PyData}, Paired (Dn K S H n) xs ds →
    ∃ A : List Addr, (∀ b ∈ A, b ∉ S ∧ ∃ o, H b = some o) ∧ ∀ H', Agr A H H' → Paired (Dn K [] H' n) xs ds
  | _, _, .nil => ⟨[], fun b hb => absurd hb (List.not_mem_nil), fun _ _ => .nil⟩
  | _, _, .cons r t => by
    obtain ⟨A, h1, h2⟩ := F _ _ r
    obtain ⟨B, h3, h4⟩ := paired_addr F t
    refine ⟨A ++ B, fun b hb => (List.mem_append.mp hb).elim (h1 b) (h3 b), fun H' e => .cons (h2 H' fun b hb => e b (List.mem_append_left _ hb)) (h4 H' fun b hb => e b (List.mem_append_right _ hb))⟩
theorem Dn.addr : ∀ {n : Nat} {v : V} {d : PyData}, Dn K S H n v d → ∃ A : List Addr, (∀ b ∈ A, b ∉ S ∧ ∃ o, H b = some o) ∧ ∀ H', Agr A H H' → Dn K [] H' n v d
  | 0, _, _, h => ⟨[], fun b hb => absurd hb (List.not_mem_nil), fun _ _ => h⟩
  | n + 1, v, d, h => by
    rcases h with h | ⟨a, xs, ds, e1, e2, ha, hq, hl, p⟩ | ⟨a, xs, ds, e1, e2, ha, hq, hl, p⟩
    · exact ⟨[], fun b hb => absurd hb (List.not_mem_nil), fun _ _ => .inl h⟩
    · obtain ⟨A, h1, h2⟩ := SqL.addr hq
      obtain ⟨B, h3, h4⟩ := paired_addr (fun v d => Dn.addr) p
      exact ⟨A ++ B, fun b hb => (List.mem_append.mp hb).elim (fun z => ⟨(h1 b z).1 ▸ ha, (h1 b z).2⟩) (h3 b), fun H' e => .inr (.inl ⟨a, xs, ds, e1, e2, by simp, h2 H' fun b hb => e b (List.mem_append_left _ hb), hl, h4 H' fun b hb => e b (List.mem_append_right _ hb)⟩)⟩
    · obtain ⟨A, h1, h2⟩ := SqT.addr hq
      obtain ⟨B, h3, h4⟩ := paired_addr (fun v d => Dn.addr) p
      exact ⟨A ++ B, fun b hb => (List.mem_append.mp hb).elim (fun z => ⟨(h1 b z).1 ▸ ha, (h1 b z).2⟩) (h3 b), fun H' e => .inr (.inr ⟨a, xs, ds, e1, e2, by simp, h2 H' fun b hb => e b (List.mem_append_left _ hb), hl, h4 H' fun b hb => e b (List.mem_append_right _ hb)⟩)⟩
theorem Dn.chunk {n : Nat} {v : V} {d : PyData} (h : Dn K S H n v d) : ∃ Z : List Cell, Hd H Z ∧ (∀ c ∈ Z, c.1 ∉ S) ∧ Zc K Z n v d := by
  obtain ⟨A, h1, h2⟩ := h.addr
  obtain ⟨B, h3, h4⟩ := same_nodup A
  refine ⟨B.map fun a => (a, fun o => H a = some o), ⟨?_, fun c hc => ?_⟩, fun c hc => ?_, fun H' hh => h2 H' fun b hb o ho => ?_⟩
  · rw [List.map_map]
    exact (List.map_id B).symm ▸ h3
  · obtain ⟨a, ha, rfl⟩ := List.mem_map.mp hc
    obtain ⟨o, ho⟩ := (h1 a ((h4 a).mpr ha)).2
    exact ⟨o, ho, ho⟩
  · obtain ⟨a, ha, rfl⟩ := List.mem_map.mp hc
    exact (h1 a ((h4 a).mpr ha)).1
  · obtain ⟨u, e1, e2⟩ := hh.at_ _ (List.mem_map.mpr ⟨b, (h4 b).mp hb, rfl⟩)
    have e3 : H b = some u := e2
    rw [ho] at e3
    cases e3
    exact e1
theorem Hd.join {Z L : List Cell} (h1 : Hd H Z) (h2 : Hd H L) (d : ∀ c ∈ Z, c.1 ∉ L.map Prod.fst) : Hd H (Z ++ L) := by
  refine ⟨?_, fun c hc => (List.mem_append.mp hc).elim (h1.at_ c) (h2.at_ c)⟩
  rw [List.map_append]
  refine List.nodup_append.mpr ⟨h1.nd, h2.nd, fun x hx y hy e => ?_⟩
  subst e
  obtain ⟨c, hc, rfl⟩ := List.mem_map.mp hx
  exact d c hc hy
theorem Zc.up {Z : List Cell} {n m : Nat} {v : V} {d : PyData} (z : Zc K Z n v d) (h : n ≤ m) : Zc K Z m v d := fun H hh => Dn.up h (z H hh)
theorem Zc.sb {Z Y : List Cell} {n : Nat} {v : V} {d : PyData} (z : Zc K Z n v d) (s : Sb Z Y) : Zc K Y n v d := fun H hh => z H (hh.sb s)
theorem Dn.tup_inv {n : Nat} {v : V} {ds : List PyData} (h : Dn K S H (n + 1) v (.tuple ds)) : ∃ a xs, v = .ref a ∧ SqT K H a xs ∧ xs.length ≤ 100000 ∧ Paired (Dn K S H n) xs ds := by
  rcases h with h | ⟨a, xs, ds', e1, e2, ha, hq, hl, p⟩ | ⟨a, xs, ds', e1, e2, ha, hq, hl, p⟩
  · cases h
  · cases e2
  · cases e2; exact ⟨a, xs, e1, hq, hl, p⟩
theorem Dn.lst_inv {n : Nat} {v : V} {ds : List PyData} (h : Dn K S H (n + 1) v (.list ds)) : ∃ a xs, v = .ref a ∧ SqL K H a xs ∧ xs.length ≤ 100000 ∧ Paired (Dn K S H n) xs ds := by
  rcases h with h | ⟨a, xs, ds', e1, e2, ha, hq, hl, p⟩ | ⟨a, xs, ds', e1, e2, ha, hq, hl, p⟩
  · cases h
  · cases e2; exact ⟨a, xs, e1, hq, hl, p⟩
  · cases e2
theorem Dn.int_inv {v : V} {i : Int} : ∀ {n : Nat}, Dn K S H n v (.int i) → v = .int i
  | 0, h => by cases h; rfl
  | n + 1, h => by
    rcases h with h | ⟨a, xs, ds', e1, e2, _⟩ | ⟨a, xs, ds', e1, e2, _⟩
    · cases h; rfl
    · cases e2
    · cases e2
theorem Dn.str_inv {v : V} {z : Str} : ∀ {n : Nat}, Dn K S H n v (.str z) → v = .str z
  | 0, h => by cases h; rfl
  | n + 1, h => by
    rcases h with h | ⟨a, xs, ds', e1, e2, _⟩ | ⟨a, xs, ds', e1, e2, _⟩
    · cases h; rfl
    · cases e2
    · cases e2
theorem Paired.ints_inv {n : Nat} : ∀ {ns : List Int} {xs : List V}, Paired (Dn K S H n) xs (ns.map PyData.int) → xs = ns.map V.int
  | [], _, .nil => rfl
  | _ :: _, _, .cons r t => by rw [Dn.int_inv r, Paired.ints_inv t]; rfl
end
end Wk
set_option Elab.async false
set_option linter.all false
set_option maxRecDepth 100000
set_option maxHeartbeats 4000000
/-! Wk: short loops unrolled, further steps over the ledger. -/
namespace Wk
open PySem PySem.Spec PyProof.Rows L2
section
variable {g : TG} {tb : TS} {D : Ends} {σ : L2.St} {H : Hp}
/-- the rest of a loop over a text, sign by sign -/
def unrS (g : TG) (tb : TS) (D : Ends) : List Nat → L2.St → Hp → Prop
  | [], σ, H => D.nx σ H
  | c :: cs, σ, H => g (.str ⟨#[c]⟩) σ H fun σ2 H2 => tb { D with nx := unrS g tb D cs, ct := unrS g tb D cs, bk := D.nx } σ2 H2
theorem w_unr {x : Str} (h : unrS g tb D x.cps.toList σ H) : KForS g tb D σ (.str x) H := by
  refine ⟨x, rfl, fun i m σ H => unrS g tb D (x.cps.toList.drop i) σ H ∧ m = x.cps.size - i, ⟨_, h, rfl⟩, ?_⟩
  rintro i m σ H ⟨h1, rfl⟩
  cases e : x.cps.toList.drop i with
  | nil =>
    rw [e] at h1
    refine .inl ⟨?_, h1⟩
    have l := congrArg List.length e
    rw [List.length_drop, Array.length_toList, List.length_nil] at l
    show x.cps.size ≤ i
    omega
  | cons c r =>
    rw [e] at h1
    have l := congrArg List.length e
    rw [List.length_drop, Array.length_toList, List.length_cons] at l
    have hi : i < x.cps.size := by omega
    have er : x.cps.toList.drop (i + 1) = r := by rw [← List.drop_drop, e]; rfl
    have ec : x.cps[i]? = some c := by
      have z : x.cps.toList[i]? = some c := by
        have := List.head?_drop (l := x.cps.toList) (i := i)
        rw [e] at this
        exact this.symm
      rw [← Array.getElem?_toList]
      exact z
    refine .inr ⟨hi, unrS g tb D r, fun σ' H' n => ⟨x.cps.size - (i + 1), by omega, er ▸ n, rfl⟩, ?_⟩
    rintro y H' ⟨rfl, c', hc', rfl⟩
    rw [ec] at hc'
    cases hc'
    exact h1
end
end Wk
set_option Elab.async false
set_option linter.all false
set_option maxRecDepth 100000
set_option maxHeartbeats 4000000
/-! Wk: own exception classes over an own class over ValueError: made, raised, caught. -/
namespace Wk
open PySem PySem.Spec PyProof.Rows L2
section
variable {X : Cx} {e : Expr} {es : List Expr} {ta : TA} {p1 p2 pos : Pos}
/-- B.__init__(self, ..), B an own class that leaves __init__ to ValueError -/
theorem pe_weinit {x : Str} {B : Addr} {mc : Value} {pl : Sem Bool} (hg : Gl X x) (hm : X.mg x = some (.ref B)) (hsp : PySem.W.specialIn X.K (.ref B) "__getattribute__" = some (some (.builtin "type.__getattribute__"))) (hr : PySem.W.readsIn X.K B mc = true)
    (vV : PySem.W.findCls X.K (.ref B) mc "__init__" = some (.val (.builtin "ValueError.__init__"))) (ha : PA X (e :: es) ta)
    (hc : eval (.Call (.Attribute (.Name x p1) "__init__" p2) (e :: es) [] pos) X.env = (do
      let ov ← eval (.Name x p1) X.env
      standAt p2.atName
      let (f, first) ← holding [ov] (getMethod ov "__init__" pl)
      callWith pos f first (backTo pos (starEach (e :: es) X.env)) (backToKw pos (keywordEach [] X.env))) := by rfl) (hdb : (x == ("__debug__" : Str)) = false := by decide)
    (he : starEach (e :: es) X.env = (false, eval e X.env) :: starEach es X.env := by rfl) (hpl : (backTo pos (starEach es X.env)).any (·.1) = false := by rfl) :
    PE X (.Call (.Attribute (.Name x p1) "__init__" p2) (e :: es) [] pos) (tVeI X.K ta) := by
  refine ⟨fun pins s σ H Q I h => ?_⟩
  refine PySem.W.methodCall_KW (ld_glob I hg hm ?_ hdb) hc
  refine PySem.W.method_cls I.kIn hsp (PySem.W.cls_value I.kIn hr vV (by decide +kernel) ?_)
  show wpAny _ _ (callWith pos (Value.builtin "ValueError.__init__") [] (backTo pos (starEach (e :: es) X.env)) []) _ _ _
  refine PyProof.Rows.callWith_method1 (thn (ha.run pos pins _ σ H _ (I.tok _) h) fun us s1 ⟨vs, H1, I1, r1, a, C, ws, ev, hl, T, ea, q⟩ => ?_) he hpl
  subst ev
  cases r1 with
  | @cons _ u0 _ ur ra rw' =>
    obtain rfl : u0 = Value.ref a := ra
    have hlen : ur.length ≤ sizeLine := by
      rw [← Paired.length rw', sizeLine_eq]
      omega
    exact oinit_ok T I1 ea hlen fun s' J => ⟨.non, H1, J, rfl, q⟩
end

/-! ### an own class is called: its __init__ is walked; the new error's context is None -/
section
variable {X : Cx} {e : Expr} {es : List Expr} {ta : TA} {p pos : Pos}
theorem pmk_oexN {CX : CXT} {x : Str} {C fI : Addr} {k : Nat} {fd : FuncData} {ps : List Str} {sp : Sp} {ds : List Value} {dvs : List V} (T : OexC X.K C) (iC : PySem.W.findIn X.K (.ref C) "__init__" = some (some (.ref fI)))
    (tI : PySem.W.typeIn X.K (.ref fI) = some (.type "function")) (F1 : FnOk X.prog X.w X.K X.mg X.base CX k fI fd ps sp) (hr : Room (k + 1) X.A) (hb : Binds X.K fd ps ds) (hd : Vals dvs ds) (hx : Passes CX X (fun _ _ _ => False))
    (hg : Gl X x) (hm : X.mg x = some (.ref C)) (ha : PA X (e :: es) ta) (hdb : (x == ("__debug__" : Str)) = false := by decide)
    (he : starEach (e :: es) X.env = (false, eval e X.env) :: starEach es X.env := by rfl) (hpl : (backTo pos (starEach es X.env)).any (·.1) = false := by rfl) :
    L2N.PMk X (.Call (.Name x p) (e :: es) [] pos) (tMkO C sp dvs ta) := by
  intro pins s σ H Q I h
  obtain ⟨nm, q, N, bs, bm, sn, sub, ab, col, dd, k0, k1, k2, k3, k5, hC, hbm⟩ := T.cls
  refine wpAny_Call_Name_kw (ld_glob I hg hm ?_ hdb)
  refine PySem.W.callWith_K (h₀ := X.base) I.ok.mod.kin T.kC (thn (ha.run pos pins s σ H _ I h) fun us s1 ⟨vs, H1, I1, r1, hz, q1⟩ => ⟨I1.kIn, ?_⟩) he hpl
  show wpAny _ _ (call (.ref C) us) _ _ _
  obtain ⟨hp, g, dr, tk, os⟩ := s1
  have above : hp.objs.size ≤ hp.objs.size + 1 := Nat.le_add_right _ 1
  have free : H1 (hp.objs.size + 1) = none := I1.hok.fresh above
  have stay : ∀ b o, hp.get? b = some o → ((hp.push (PySem.W.kdv_tup us)).push (PySem.HandSPX.excO C hp.objs.size)).get? b = some o :=
    fun b o z => Heap.get?_push_of_some _ (Heap.get?_push_of_some _ z)
  have new : ((hp.push (PySem.W.kdv_tup us)).push (PySem.HandSPX.excO C hp.objs.size)).get? (hp.objs.size + 1) = some (PySem.HandSPX.excO C hp.objs.size) := by heap_get
  have I2 : Inv X pins σ (upd H1 (hp.objs.size + 1) (exo (hp.objs.size + 1) C none)) ⟨(hp.push (PySem.W.kdv_tup us)).push (PySem.HandSPX.excO C hp.objs.size), g, dr, tk, os⟩ :=
    I1.laid (t' := tk) (a := hp.objs.size + 1) (o := exo (hp.objs.size + 1) C none) (h' := (hp.push (PySem.W.kdv_tup us)).push (PySem.HandSPX.excO C hp.objs.size)) stay above (exo_ok new)
  have body := q1 (hp.objs.size + 1) free
  have rel : Vals (V.ref (hp.objs.size + 1) :: (vs ++ dvs)) (Value.ref (hp.objs.size + 1) :: (us ++ ds)) := .cons rfl (r1.append hd)
  have many : (Value.ref (hp.objs.size + 1) :: us ++ ds).length = ps.length := by
    have z := rel.length
    rw [F1.len _ _ _ _ body] at z
    exact z.symm
  have short : us.length ≤ sizeLine := by
    have z := Paired.length r1
    have z2 := sizeLine_eq
    omega
  refine wpAny_call (PySem.HandSPX.call_own F.excBase_ValueError (fun Y => PySem.HandSPX.refsVE_contains Y bm hbm) (I1.kIn _ _ hC) (PySem.W.looks_findIn I1.kIn iC) (fun self => PySem.W.bind_fn I1.kIn self tI) short
    (codeAny_mono (F1.run _ X.stack _ _ ⟨Value.ref (hp.objs.size + 1) :: us, []⟩ (Value.ref (hp.objs.size + 1) :: (us ++ ds)) _ _ (fun _ _ _ => False) (hr.make C us []) (I2.env0.make C us []) (hb _ (Value.ref (hp.objs.size + 1) :: us) I2.kIn many) rel body) fun r s' out => ?_))
  cases r with
  | error er => exact hx pins σ _ _ er s' I2 out
  | ok fl =>
    cases fl with
    | next => exact False.elim out
    | brk => exact False.elim out
    | cont => exact False.elim out
    | ret u =>
      obtain ⟨v, H2, os2, bare2, un2, hok2, rv, ev, d, fs, ea, ed, hd1, q2⟩ := out
      subst ev
      obtain ⟨h2, g2, d2, t2, os'⟩ := s'
      obtain ⟨t0, G, J, kG, ge, hoe, na⟩ := mk_end0 (d2 := d2) (t2 := t2) I1 above stay un2 hok2 os2 bare2 ea ed hd1
      exact ⟨rv, _, _, _, ⟨G, g2, d2, t2, os'⟩, _, .ref C, some d, rfl, J, kG, ge, hoe, ⟨rfl, rfl, fun vs z => by cases z; rfl⟩, rfl, rfl, na, rfl, bare2, raises_own T.exC T.tyC, q2⟩
end

/-! ### a handled error that stands pinned: its class is asked, its fields are read -/
/-- isinstance(e, c), e the pinned error of the class D with its dict at dd -/
def rIsP (K : PySem.W.Frag) (D a dd : Addr) : List V → Hp → VK → Prop := fun xs H Q =>
  ∃ (c : V) (cv : Value) (b : Bool) (fs : List (Str × V)), xs = [.ref a, c] ∧ (∀ u, RelV c u → u = cv) ∧ PySem.W.kitOne K (.ref D) cv = some b ∧ H dd = some (.xd fs) ∧ Q (.bl b) H
theorem call_isP {X : Cx} {a D dd : Addr} {oe : Obj} (C : ExcC X.K D) (hp : (a, oe) ∈ X.pn) (hz : L2.Zc (.ref D) (some dd) oe) (hf : ∃ vs, oe.data = .fields vs) : CallR X (.builtin "isinstance") (rIsP X.K D a dd) := by
  intro pins s σ H xs us Q I r h
  obtain ⟨c, cv, b, fs, rfl, hcv, e, hd, q⟩ := h
  cases r with
  | cons rx rr =>
    cases rr with
    | cons rt rr =>
      cases rr
      cases rx
      have ec := hcv _ rt
      subst ec
      obtain ⟨hget, _⟩ := I.pin (a, oe) (List.mem_append_left _ hp)
      obtain ⟨vs, hv⟩ := hf
      have ho : ObjOk X.prog X.w H s.heap dd (.xd fs) := I.hok dd _ hd
      obtain ⟨od, hod⟩ := objOk_get ho
      have J : PySem.W.InstAt s.heap a oe D (some od) := ⟨hget, hz.1, by unfold PySem.W.notCls; rw [hv] <;> rfl, by rw [hz.2]; exact hod⟩
      have hcl : (PySem.W.clsIn X.K D).isSome = true := by
        obtain ⟨cd, hc, _⟩ := PySem.W.any_some C.hd
        rw [hc]
        rfl
      exact PySem.W.kia_one (PySem.W.kitx_exc hcl C.hg C.hk C.hs C.ha C.hn C.ht C.hm) I.kIn J e (fun z => nomatch z) fun tk => ⟨.bl b, H, I.kept (t' := tk) fun _ _ z => z, rfl, q⟩
theorem pe_xfP {X : Cx} {a C : Addr} {oe : Obj} {cls : Value} {d : Option Addr} {e : Expr} {te : TE} {pos : Pos} {n : Str} (T : XfC X.K C) (hno : PySem.W.findIn X.K (.ref C) n = some none)
    (hp : (a, oe) ∈ X.pn) (hz : L2.Zc cls d oe) (hf : ∃ vs, oe.data = .fields vs) (he : PE X e te) (hb : attributeBase e n X.env (eval e X.env) = eval e X.env := by rfl) : PE X (.Attribute e n pos) (tXf a cls d C n te) := by
  refine ⟨fun pins s σ H Q I h => ?_⟩
  refine attr_of hb (thn (he.run pins s σ H _ I h) fun u s1 out => ?_)
  obtain ⟨x, H1, I1, rx, ex, ec, dd, fs, v, ed, ea, l, q⟩ := out
  subst ex ec ed
  obtain rfl : u = Value.ref a := rx
  have hget := (I1.pin (a, oe) (List.mem_append_left _ hp)).1
  obtain ⟨vs, hd⟩ := hf
  obtain ⟨mA, hns, hr⟩ := (I1.hok dd _ ea : ObjOk X.prog X.w H1 s1.heap dd (.xd fs))
  obtain ⟨od, ho, hl⟩ := lookIn_ns hns
  obtain ⟨u, hu, ru⟩ := RelO.some_of (v := v) (o := mA n) (by rw [← l]; exact hr n)
  have J : PySem.W.InstAt s1.heap a oe C (some od) := ⟨hget, hz.1, by unfold PySem.W.notCls; rw [hd] <;> rfl, by rw [hz.2]; exact ho⟩
  exact PySem.HandSPX.exc_get I1.kIn J T.ga T.gg T.exC (PySem.W.findObj_own T.hdC hno rfl (by rw [hl, hu])) (handed_of ru) ⟨v, H1, I1.tok _, ru, q⟩

/-! ### a def that gets the handled error: its contract speaks of the error's object -/
abbrev SpP := Addr × Obj → Sp
structure FnE (P : Program) (w : World) (K : PySem.W.Frag) (mg : Str → Option Value) (base : Heap) (CX : CXT) (k : Nat) (f : Addr) (fd : FuncData) (ps : List Str) (sp : SpP) : Prop where
  len : ∀ p vs H Q E, sp p vs H Q E → vs.length = ps.length
  run : ∀ (A : Around) (outer : List Env) (s : Shared) (H : Hp) (args : Args) (us : List Value) (vs : List V) (Q : VK) (E : XK) (p : Addr × Obj), L2H.RoomH k A → L2H.Hot1 A p → L2H.PinOk outer H s p → Env0 P w K mg base A outer s H →
    BindsTo s fd args (ps.zip us) → Vals vs us → sp p vs H Q E → codeAny (model P w) A (.call (.ref f) args) (CR CX outer P w H s Q E) s
theorem fn_ofE {CX : CXT} {P : Program} {w : World} {K : PySem.W.Frag} {mg : Str → Option Value} {base : Heap} {k : Nat} {f : Addr} {name qual : Str} {params : Arguments} {body : List Stmt} {scope : Scope} {dV kV doc pm cdv ct oc : Value} {an od : Option Addr}
    {osl : Array (Option Value)} {N ps : List Str} {sp : SpP} (lk : K.lookup f = some ⟨oc, od, .func (PySem.W.fnOf name qual params body scope dV kV doc pm an cdv ct), osl⟩) (hcd : PySem.W.codeIn K cdv qual = true) (S : FnScope N ps scope)
    (len : ∀ p vs H Q E, sp p vs H Q E → vs.length = ps.length)
    (hbody : ∀ (A : Around) (outer : List Env) (s : Shared) (H : Hp) (vs : List V) (Q : VK) (E : XK) (p : Addr × Obj), L2H.Hot1 A p → L2H.RoomH k (A.deeper (envOfC qual scope s.heap.objs.size f cdv)) → sp p vs H Q E →
      ∃ t, PSs (L2H.cxH CX P w K mg base N qual scope f cdv A outer s H E p) body t ∧ t { nx := fun _ H' => Q .non H', rt := Q } (L2.start N vs) H) :
    FnE P w K mg base CX (k + 1) f (PySem.W.fnOf name qual params body scope dV kV doc pm an cdv ct) ps sp := by
  refine ⟨len, fun A outer s H args us vs Q E p room hot pin e0 binds rel told => ?_⟩
  have many := len _ _ _ _ _ told
  have KX : K.In s.heap := e0.mod.kin.keeps fun b o z => (e0.bs b o z).1
  have lim : s.heap.NoLimit := e0.mod.nolimit.keeps fun b o z => (e0.bs b o z).1
  have kinds : ∀ y ∈ ps.zip us, scope.names.lookup y.1 = some .local ∨ (scope.names.lookup y.1 = some .cell ∧ ((cellsFrom (s.heap.objs.size + 1) scope.names []).lookup y.1).isSome = true) := by
    rintro ⟨n, v⟩ hy
    rcases S.par n (List.of_mem_zip hy).1 with z | z
    · exact .inl z
    · exact .inr ⟨z, PySem.W.cellsFrom_some _ _ _ (.inl z)⟩
  refine codeAny_call_function room.depth (KX _ _ lk) rfl S.co S.gen rfl (PySem.W.codeRec_of KX hcd) (binds _ _ _ _ ?_)
  refine wpAny_newFunctionEnv_cells S.kind kinds fun env he s1 x => ?_
  subst he
  refine ⟨lim.keeps x.toInCall.keep, codeAny_func ?_⟩
  obtain ⟨t, walk, goal⟩ := hbody A outer s H vs Q E p hot (room.deeper _) told
  have I : Inv (L2H.cxH CX P w K mg base N qual scope f cdv A outer s H E p) [] (L2.start N vs) H s1 := L2H.inv_startH S pin e0 many rel x
  refine wpAny_mono (walk.run [] s1 (L2.start N vs) H _ I goal) (fun fl s' out => ?_) fun e s' out => out
  have back : ∀ {σ' : L2.St} {H' : Hp} {v : V} {u : Value}, Inv (L2H.cxH CX P w K mg base N qual scope f cdv A outer s H E p) [] σ' H' s' → RelV v u → Q v H' → CE outer P w H s Q u s' :=
    fun {σ' H' v u} J rv q => ⟨v, H', J.os, J.bare, J.base, J.hok, rv, q⟩
  cases fl with
  | next =>
    obtain ⟨σ', H', J, q⟩ := out
    exact back (v := V.non) (u := Value.none) J rfl q
  | ret u =>
    obtain ⟨v, σ', H', J, rv, q⟩ := out
    exact back J rv q
  | brk =>
    obtain ⟨_, _, _, q⟩ := out
    exact False.elim q
  | cont =>
    obtain ⟨_, _, _, q⟩ := out
    exact False.elim q
section
variable {X : Cx} {CX : CXT} {k : Nat} {f : Addr} {fd : FuncData} {ps : List Str} {sp : SpP} {E : L2.St → XK} {x : Str} {q pos : Pos} {e : Expr} {es : List Expr} {t : TA}
/-- f(e, ..) within a suite whose handled error is p -/
theorem pe_callE {p : Addr × Obj} {sp2 : Sp} (imp : ∀ vs H Q E, sp2 vs H Q E → sp p vs H Q E) (F : FnE X.prog X.w X.K X.mg X.base CX k f fd ps sp) (hr : L2H.RoomH k X.A) (hot : L2H.Hot1 X.A p) (hp : p ∈ X.pn) (hg : Gl X x) (hm : X.mg x = some (.ref f)) (hk : PySem.W.keepIn X.K (.ref f) = true) (hb : Binds X.K fd ps [])
    (hx : ∀ σ, PassesAt CX X σ (E σ)) (ha : PA X (e :: es) t) (hdb : (x == ("__debug__" : Str)) = false := by decide) (he : starEach (e :: es) X.env = (false, eval e X.env) :: starEach es X.env := by rfl)
    (hpl : (backTo pos (starEach es X.env)).any (·.1) = false := by rfl) : PE X (.Call (.Name x q) (e :: es) [] pos) (tCallS sp2 E t) := by
  refine ⟨fun pins s σ H Q I h => ?_⟩
  refine wpAny_Call_Name_kw (ld_glob I hg hm ?_ hdb)
  refine PySem.W.callWith_K (h₀ := X.base) I.ok.mod.kin hk (thn (ha.run pos pins s σ H _ I h) fun us s1 ⟨vs, H1, I1, rel, told⟩ => ⟨I1.kIn, ?_⟩) he hpl
  have many : us.length = ps.length := by rw [← rel.length]; exact F.len _ _ _ _ _ (imp _ _ _ _ told)
  have binds := hb s1 us I1.kIn (by rw [List.append_nil]; exact many)
  rw [List.append_nil] at binds
  have P1 := I1.pin p (List.mem_append_left _ hp)
  have pin : L2H.PinOk X.stack H1 s1 p := ⟨P1.1, P1.2.1, fun hm => (List.mem_cons.mp (I1.stkSub p.1 hm)).elim P1.2.2.1 P1.2.2.2.1, P1.2.2.2.2⟩
  refine wpAny_call (codeAny_mono (F.run X.A X.stack s1 H1 ⟨us, []⟩ us vs Q (E σ) p hr hot pin I1.env0 binds rel (imp _ _ _ _ told)) fun r s' out => ?_)
  cases r with
  | error e => exact hx σ pins H1 s1 e s' I1 out
  | ok fl =>
    cases fl with
    | ret u => exact I1.after out
    | next => exact False.elim out
    | brk => exact False.elim out
    | cont => exact False.elim out
end

/-! ### defs that may raise, under their names; nothing is let out that is not told -/
structure CalN (P : Program) (w : World) (K : PySem.W.Frag) (mg : Str → Option Value) (base : Heap) (k : Nat) (x : Str) (sp : Sp) : Prop where
  ex : ∃ (f : Addr) (fd : FuncData) (ps : List Str), FnOk P w K mg base (L2N.CX P w) k f fd ps sp ∧ mg x = some (.ref f) ∧ PySem.W.keepIn K (.ref f) = true ∧ Binds K fd ps []
theorem passN {X : Cx} : Passes (L2N.CX X.prog X.w) X (fun _ _ _ => False) := fun _ _ _ _ _ _ _ h => by
  obtain ⟨_, _, _, _, _, _, _, _, _, _, _, _, z⟩ := h
  exact z.elim
section
variable {X : Cx} {k j : Nat} {sp : Sp} {W : WX} {x : Str} {q pos : Pos} {e : Expr} {es : List Expr} {t : TA}
theorem pe_cN (c : CalN X.prog X.w X.K X.mg X.base k x sp) (hr : Room j X.A) (hk : k ≤ j) (tk : L2N.Takes X W) (hg : Gl X x) (ha : PA X (e :: es) t)
    (hdb : (x == ("__debug__" : Str)) = false := by decide) (he : starEach (e :: es) X.env = (false, eval e X.env) :: starEach es X.env := by rfl) (hpl : (backTo pos (starEach es X.env)).any (·.1) = false := by rfl) :
    PE X (.Call (.Name x q) (e :: es) [] pos) (tCallS sp (WE W) t) := by
  obtain ⟨f, fd, ps, F, hm, kp, b⟩ := c.ex
  exact pe_callS F (hr.mono hk) hg hm kp b (fun σ => L2N.passAt tk σ) ha hdb he hpl
end
theorem takes0N {X : Cx} : L2N.Takes X (fun _ _ _ _ => False) := fun _ _ x => by
  obtain ⟨_, _, _, _, _, _, _, _, _, _, _, _, _, _, _, _, z⟩ := x
  exact z.elim
/-- behind the making of an error: what stood stands, and its dict -/
theorem made_heap {H1 : Hp} {a d C : Addr} {o1 : HO} {fs : List (Str × V)} (n : H1 a = none) (nd : d ≠ a) : upd (del (upd (upd (upd H1 a o1) d (exd d fs)) a (exo a C (some d))) a) d (.xd fs) = upd H1 d (.xd fs) := by
  funext b
  by_cases hd : b = d
  · rw [hd, upd_same, upd_same]
  · rw [upd_ne hd, upd_ne hd]
    by_cases ha : b = a
    · rw [ha, del_same, n]
    · rw [del_ne ha, upd_ne ha, upd_ne hd, upd_ne ha]
end Wk
set_option Elab.async false
set_option linter.all false
set_option maxRecDepth 100000
set_option maxHeartbeats 4000000
/-! Wk: methods and classes called with keywords; methods that may raise. -/
namespace Wk
open PySem PySem.Spec PyProof.Rows L2
section
variable {X : Cx} {CX : CXT} {k n : Nat} {f C : Addr} {fd : FuncData} {ps ks : List Str} {sp : Sp} {x m : Str} {p pos apos : Pos} {e o : Expr} {es : List Expr} {kws : List Keyword} {ta : TE} {t tk : TA} {g : List Value → List Value → List Value} {gV : List V → List V → List V}
theorem run_kwS {E : XK} {pins : List (Addr × Obj)} {σ : L2.St} {H : Hp} {s : Shared} {Q : VK} {us ws : List Value} {vs zs : List V} (F : FnOk X.prog X.w X.K X.mg X.base CX k f fd ps sp) (hr : Room k X.A) (hb : KBn X.K fd ps n ks g gV) (hx : PassesAt CX X σ E)
    (I : Inv X pins σ H s) (r : Vals vs us) (rz : Vals zs ws) (l1 : vs.length = n) (l2 : zs.length = ks.length) (h : sp (gV vs zs) H Q E) : wpAny (model X.prog X.w) X.A (call (.ref f) us (ks.zip ws)) (EP X pins σ Q) X.xe s := by
  have r2 := hb.rel r rz
  refine wpAny_call (codeAny_mono (F.run X.A X.stack s H ⟨us, ks.zip ws⟩ (g us ws) (gV vs zs) Q E hr I.env0 (hb.to s us ws I.kIn (r.length.symm.trans l1) (rz.length.symm.trans l2)) r2 h) fun r s' out => ?_)
  cases r with
  | error e => exact hx pins H s e s' I out
  | ok fl =>
    cases fl with
    | ret u => exact I.after out
    | next => exact False.elim out
    | brk => exact False.elim out
    | cont => exact False.elim out
/-- o.m(k = v, ..) -/
def tMethK (C : Addr) (m : Str) (n : Nat) (sp : Sp) (gV : List V → List V → List V) (E : L2.St → XK) (ta : TE) (tk : TA) : TE := fun σ H Q => ta σ H fun x H1 => ∃ a dx fs, x = .ref a ∧ H1 a = some (.ins C dx fs) ∧ fs.lookup m = none ∧ tk σ H1 fun zs H2 => zs.length = n ∧ sp (gV [x] zs) H2 Q (E σ)
theorem pe_methK {E : L2.St → XK} {pl : Sem Bool} (he : PE X o ta) (c : Cls X.K C) (hm : Meth X.K C m f) (F : FnOk X.prog X.w X.K X.mg X.base CX k f fd ps sp) (hr : Room k X.A) (hb : KBn X.K fd ps 1 ks g gV) (hx : ∀ σ, PassesAt CX X σ (E σ)) (hkw : PK X kws tk)
    (hall : (backToKw pos (keywordEach kws X.env)).all (·.1.isSome) = true := by rfl) (hks : (backToKw pos (keywordEach kws X.env)).filterMap (·.1) = ks := by rfl)
    (hpl : ((backTo pos (starEach [] X.env)).any (·.1) || (backToKw pos (keywordEach kws X.env)).any (·.1.isNone)) = false := by rfl)
    (ht : eval (.Call (.Attribute o m apos) [] kws pos) X.env = (do
      let ov ← eval o X.env
      standAt apos.atName
      let (f, first) ← holding [ov] (getMethod ov m pl)
      callWith pos f first (backTo pos (starEach [] X.env)) (backToKw pos (keywordEach kws X.env))) := by rfl) :
    PE X (.Call (.Attribute o m apos) [] kws pos) (tMethK C m ks.length sp gV E ta tk) := by
  refine ⟨fun pins s σ H Q I h => ?_⟩
  refine PySem.W.methodCall_KW (pl := pl) (thn (he.run pins s σ H _ I h) fun u s1 ⟨x, H1, I1, rx, a, dx, fs, ex, ea, l, q⟩ => ?_) ht
  subst ex
  obtain rfl : u = Value.ref a := rx
  refine getmeth_ok I1 ea c hm l ?_
  refine PySem.W.callWith_KW0 (first := [.ref a]) (h₀ := X.base) I.ok.mod.kin hm.kp hall ?_ hpl
  refine thn (hkw.run pos pins s1 σ H1 _ I1 q) fun ws s2 ⟨zs, H2, I2, rz, l2, q2⟩ => ⟨I2.kIn, ?_⟩
  rw [hks]
  exact run_kwS (us := [.ref a]) (vs := [.ref a]) F hr hb (hx σ) I2 (.cons rfl .nil) rz rfl l2 q2
/-- o.m(e, ..) that may raise -/
def tMethE (C : Addr) (m : Str) (sp : Sp) (E : L2.St → XK) (ta : TE) (t : TA) : TE := fun σ H Q => ta σ H fun x H1 => ∃ a dx fs, x = .ref a ∧ H1 a = some (.ins C dx fs) ∧ fs.lookup m = none ∧ t σ H1 fun vs H2 => sp (x :: vs) H2 Q (E σ)
theorem pe_methE {E : L2.St → XK} {pl : Sem Bool} (he : PE X o ta) (c : Cls X.K C) (hm : Meth X.K C m f) (F : FnOk X.prog X.w X.K X.mg X.base CX k f fd ps sp) (hr : Room k X.A) (hb : Binds X.K fd ps []) (hx : ∀ σ, PassesAt CX X σ (E σ)) (ha : PA X (e :: es) t)
    (hst : starEach (e :: es) X.env = (false, eval e X.env) :: starEach es X.env := by rfl) (hpl : (backTo pos (starEach es X.env)).any (·.1) = false := by rfl)
    (ht : eval (.Call (.Attribute o m apos) (e :: es) [] pos) X.env = (do
      let ov ← eval o X.env
      standAt apos.atName
      let (f, first) ← holding [ov] (getMethod ov m pl)
      callWith pos f first (backTo pos (starEach (e :: es) X.env)) (backToKw pos (keywordEach [] X.env))) := by rfl) :
    PE X (.Call (.Attribute o m apos) (e :: es) [] pos) (tMethE C m sp E ta t) := by
  refine ⟨fun pins s σ H Q I h => ?_⟩
  refine PySem.W.methodCall_KW (pl := pl) (thn (he.run pins s σ H _ I h) fun u s1 ⟨x, H1, I1, rx, a, dx, fs, ex, ea, l, q⟩ => ?_) ht
  subst ex
  obtain rfl : u = Value.ref a := rx
  refine getmeth_ok I1 ea c hm l ?_
  refine PySem.W.callWith_K (first := [.ref a]) (h₀ := X.base) I.ok.mod.kin hm.kp (thn (ha.run pos pins s1 σ H1 _ I1 q) fun us s2 ⟨vs, H2, I2, r, q2⟩ => ⟨I2.kIn, ?_⟩) hst hpl
  exact run_fnS (us := .ref a :: us) (vs := .ref a :: vs) F hr hb (hx σ) I2 (.cons rfl r) q2
end
/-- no defaults: the values in the order of the parameters -/
theorem kbn0 {K : PySem.W.Frag} {x qual : Str} {params : Arguments} {body : List Stmt} {scope : Scope} {f : Addr} {fd : FuncData} {ps ks : List Str} {n : Nat} {g : List Value → List Value → List Value} {gV : List V → List V → List V} (F : FunD K x qual params body scope [] [] f fd)
    (hrel : ∀ {vs : List V} {us : List Value} {zs : List V} {ws : List Value}, Vals vs us → Vals zs ws → Vals (gV vs zs) (g us ws))
    (h : ∀ (kV doc pm : Value) (an : Option Addr) (cdv ct : Value) (us ws : List Value), us.length = n → ws.length = ks.length → bindArgs (PySem.W.fnOf x qual params body scope .none kV doc pm an cdv ct) ⟨us, ks.zip ws⟩ = pure (ps.zip (g us ws))) : KBn K fd ps n ks g gV := by
  obtain ⟨oc, od, dV, kV, doc, pm, an, cdv, ct, osl, rfl, lk, hcd, hD, hK⟩ := F.ex
  rcases hD with ⟨_, rfl⟩ | ⟨e, _⟩
  · exact ⟨fun s us ws _ l1 l2 => .of_eq (h kV doc pm an cdv ct us ws l1 l2), fun r1 r2 => hrel r1 r2⟩
  · exact absurd rfl e
/-! ### under their names -/
/-- a method called with keywords alone -/
structure MetK (P : Program) (w : World) (K : PySem.W.Frag) (mg : Str → Option Value) (base : Heap) (k : Nat) (C : Addr) (m : Str) (sp : Sp) (ks : List Str) (gV : List V → List V → List V) : Prop where
  ex : ∃ (f : Addr) (fd : FuncData) (ps : List Str) (g : List Value → List Value → List Value), Cls K C ∧ Meth K C m f ∧ FnOk P w K mg base C8.CX0 k f fd ps sp ∧ KBn K fd ps 1 ks g gV
/-- a method that may raise, called by place and with keywords -/
structure MetN (P : Program) (w : World) (K : PySem.W.Frag) (mg : Str → Option Value) (base : Heap) (k : Nat) (C : Addr) (m : Str) (sp : Sp) (ks : List Str) (gV : List V → List V → List V) : Prop where
  ex : ∃ (f : Addr) (fd : FuncData) (ps : List Str) (g : List Value → List Value → List Value), Cls K C ∧ Meth K C m f ∧ FnOk P w K mg base (L2N.CX P w) k f fd ps sp ∧ Binds K fd ps [] ∧ KBn K fd ps 1 ks g gV
/-- a class called with keywords alone -/
structure MakK (P : Program) (w : World) (K : PySem.W.Frag) (mg : Str → Option Value) (base : Heap) (k : Nat) (x : Str) (C : Addr) (sp : Sp) (ks : List Str) (gV : List V → List V → List V) : Prop where
  ex : ∃ (f : Addr) (fd : FuncData) (ps : List Str) (g : List Value → List Value → List Value), Mk K C f ∧ FnOk P w K mg base C8.CX0 k f fd ps sp ∧ mg x = some (.ref C) ∧ KBn K fd ps 1 ks g gV
section
variable {X : Cx} {k j : Nat} {C : Addr} {sp : Sp} {x m : Str} {p pos apos : Pos} {e o : Expr} {es : List Expr} {kws : List Keyword} {ta : TE} {t tk : TA} {ks : List Str} {gV : List V → List V → List V} {W : WX}
theorem pe_mtK {pl : Sem Bool} (c : MetK X.prog X.w X.K X.mg X.base k C m sp ks gV) (hr : Room j X.A) (hk : k ≤ j) (he : PE X o ta) (hkw : PK X kws tk)
    (hall : (backToKw pos (keywordEach kws X.env)).all (·.1.isSome) = true := by rfl) (hks : (backToKw pos (keywordEach kws X.env)).filterMap (·.1) = ks := by rfl)
    (hpl : ((backTo pos (starEach [] X.env)).any (·.1) || (backToKw pos (keywordEach kws X.env)).any (·.1.isNone)) = false := by rfl)
    (ht : eval (.Call (.Attribute o m apos) [] kws pos) X.env = (do
      let ov ← eval o X.env
      standAt apos.atName
      let (f, first) ← holding [ov] (getMethod ov m pl)
      callWith pos f first (backTo pos (starEach [] X.env)) (backToKw pos (keywordEach kws X.env))) := by rfl) :
    PE X (.Call (.Attribute o m apos) [] kws pos) (tMethK C m ks.length sp gV (fun _ => C8.E0) ta tk) := by
  obtain ⟨f, fd, ps, g, hc, hm, F, b⟩ := c.ex
  exact pe_methK he hc hm F (hr.mono hk) b (fun σ pins H s e s' I c => C8.pass0 (X := X) pins σ H s e s' I c) hkw hall hks hpl ht
theorem pe_mtKN {pl : Sem Bool} (c : MetN X.prog X.w X.K X.mg X.base k C m sp ks gV) (hr : Room j X.A) (hk : k ≤ j) (tk' : L2N.Takes X W) (he : PE X o ta) (hkw : PK X kws tk)
    (hall : (backToKw pos (keywordEach kws X.env)).all (·.1.isSome) = true := by rfl) (hks : (backToKw pos (keywordEach kws X.env)).filterMap (·.1) = ks := by rfl)
    (hpl : ((backTo pos (starEach [] X.env)).any (·.1) || (backToKw pos (keywordEach kws X.env)).any (·.1.isNone)) = false := by rfl)
    (ht : eval (.Call (.Attribute o m apos) [] kws pos) X.env = (do
      let ov ← eval o X.env
      standAt apos.atName
      let (f, first) ← holding [ov] (getMethod ov m pl)
      callWith pos f first (backTo pos (starEach [] X.env)) (backToKw pos (keywordEach kws X.env))) := by rfl) :
    PE X (.Call (.Attribute o m apos) [] kws pos) (tMethK C m ks.length sp gV (WE W) ta tk) := by
  obtain ⟨f, fd, ps, g, hc, hm, F, _, b⟩ := c.ex
  exact pe_methK he hc hm F (hr.mono hk) b (fun σ => L2N.passAt tk' σ) hkw hall hks hpl ht
theorem pe_mtN {pl : Sem Bool} (c : MetN X.prog X.w X.K X.mg X.base k C m sp ks gV) (hr : Room j X.A) (hk : k ≤ j) (tk' : L2N.Takes X W) (he : PE X o ta) (ha : PA X (e :: es) t)
    (hst : starEach (e :: es) X.env = (false, eval e X.env) :: starEach es X.env := by rfl) (hpl : (backTo pos (starEach es X.env)).any (·.1) = false := by rfl)
    (ht : eval (.Call (.Attribute o m apos) (e :: es) [] pos) X.env = (do
      let ov ← eval o X.env
      standAt apos.atName
      let (f, first) ← holding [ov] (getMethod ov m pl)
      callWith pos f first (backTo pos (starEach (e :: es) X.env)) (backToKw pos (keywordEach [] X.env))) := by rfl) :
    PE X (.Call (.Attribute o m apos) (e :: es) [] pos) (tMethE C m sp (WE W) ta t) := by
  obtain ⟨f, fd, ps, g, hc, hm, F, b, _⟩ := c.ex
  exact pe_methE he hc hm F (hr.mono hk) b (fun σ => L2N.passAt tk' σ) ha hst hpl ht
theorem pe_mkK (c : MakK X.prog X.w X.K X.mg X.base k x C sp ks gV) (hr : Room j X.A) (hk : k + 1 ≤ j) (hg : Gl X x) (hkw : PK X kws tk)
    (hall : (backToKw pos (keywordEach kws X.env)).all (·.1.isSome) = true := by rfl) (hks : (backToKw pos (keywordEach kws X.env)).filterMap (·.1) = ks := by rfl) (hdb : (x == ("__debug__" : Str)) = false := by decide)
    (hpl : ((backTo pos (starEach [] X.env)).any (·.1) || (backToKw pos (keywordEach kws X.env)).any (·.1.isNone)) = false := by rfl) :
    PE X (.Call (.Name x p) [] kws pos) (tMakeK C 0 ks.length sp gV C8.E0 tNil tk) := by
  obtain ⟨f, fd, ps, g, M, F, hm, b⟩ := c.ex
  exact pe_makeK0 M F (hr.mono hk) hg hm b C8.pass0 hkw hall hks hdb hpl
end
end Wk
set_option Elab.async false
set_option linter.all false
set_option maxRecDepth 100000
set_option maxHeartbeats 4000000
/-! Wk: defs with keyword-only parameters: their defaults, their names, and what they raise. -/
namespace Wk
open PySem PySem.Spec PyProof.Rows L2
/-- f(e, .., k = v, ..) that may raise -/
def tCallNS (n m : Nat) (sp : Sp) (gV : List V → List V → List V) (E : L2.St → XK) (t tk : TA) : TE := fun σ H Q => t σ H fun vs H1 => tk σ H1 fun zs H2 => vs.length = n ∧ zs.length = m ∧ sp (gV vs zs) H2 Q (E σ)
/-- a def that may raise, called by place and with keywords -/
structure CalKN (P : Program) (w : World) (K : PySem.W.Frag) (mg : Str → Option Value) (base : Heap) (k : Nat) (x : Str) (sp : Sp) (n : Nat) (ks : List Str) (gV : List V → List V → List V) : Prop where
  ex : ∃ (f : Addr) (fd : FuncData) (ps : List Str) (g : List Value → List Value → List Value), FnOk P w K mg base (L2N.CX P w) k f fd ps sp ∧ mg x = some (.ref f) ∧ PySem.W.keepIn K (.ref f) = true ∧ KBn K fd ps n ks g gV
section
variable {X : Cx} {k j n : Nat} {sp : Sp} {x : Str} {p pos : Pos} {e : Expr} {es : List Expr} {kws : List Keyword} {t tk : TA} {ks : List Str} {gV : List V → List V → List V} {W : WX}
theorem pe_ckpN (c : CalKN X.prog X.w X.K X.mg X.base k x sp n ks gV) (hr : Room j X.A) (hk : k ≤ j) (tk' : L2N.Takes X W) (hg : Gl X x) (ha : PA X (e :: es) t) (hkw : PK X kws tk)
    (hall : (backToKw pos (keywordEach kws X.env)).all (·.1.isSome) = true := by rfl) (hks : (backToKw pos (keywordEach kws X.env)).filterMap (·.1) = ks := by rfl)
    (hdb : (x == ("__debug__" : Str)) = false := by decide) (he : starEach (e :: es) X.env = (false, eval e X.env) :: starEach es X.env := by rfl)
    (hpl : ((backTo pos (starEach (e :: es) X.env)).any (·.1) || (backToKw pos (keywordEach kws X.env)).any (·.1.isNone)) = false := by rfl) :
    PE X (.Call (.Name x p) (e :: es) kws pos) (tCallNS n ks.length sp gV (WE W) t tk) := by
  obtain ⟨f, fd, ps, g, F, hm, kp, b⟩ := c.ex
  refine ⟨fun pins s σ H Q I h => ?_⟩
  refine wpAny_Call_Name_kw (ld_glob I hg hm ?_ hdb)
  refine PySem.W.callWith_KW (h₀ := X.base) I.ok.mod.kin kp hall (thn (ha.run pos pins s σ H _ I h) fun us s1 ⟨vs, H1, I1, r, q⟩ => ?_) hpl he
  refine thn (hkw.run pos pins s1 σ H1 _ I1 q) fun ws s2 ⟨zs, H2, I2, rz, l1, l2, q2⟩ => ⟨I2.kIn, ?_⟩
  rw [hks]
  exact run_kwS F (hr.mono hk) b (L2N.passAt tk' σ) I2 r rz l1 l2 q2
end
/-- the keyword-only parameters are all written -/
theorem kbnK {K : PySem.W.Frag} {x qual : Str} {params : Arguments} {body : List Stmt} {scope : Scope} {kwd : List (Str × V)} {f : Addr} {fd : FuncData} {ps ks : List Str} {n : Nat} {g : List Value → List Value → List Value} {gV : List V → List V → List V} (F : FunD K x qual params body scope [] kwd f fd)
    (hrel : ∀ {vs : List V} {us : List Value} {zs : List V} {ws : List Value}, Vals vs us → Vals zs ws → Vals (gV vs zs) (g us ws))
    (h : ∀ (kV doc pm : Value) (an : Option Addr) (cdv ct : Value) (us ws : List Value), us.length = n → ws.length = ks.length → bindArgs (PySem.W.fnOf x qual params body scope .none kV doc pm an cdv ct) ⟨us, ks.zip ws⟩ = pure (ps.zip (g us ws))) : KBn K fd ps n ks g gV := by
  obtain ⟨oc, od, dV, kV, doc, pm, an, cdv, ct, osl, rfl, lk, hcd, hD, hK⟩ := F.ex
  rcases hD with ⟨_, rfl⟩ | ⟨e, _⟩
  · exact ⟨fun s us ws _ l1 l2 => .of_eq (h kV doc pm an cdv ct us ws l1 l2), fun r1 r2 => hrel r1 r2⟩
  · exact absurd rfl e
section
variable {P : Program} {w : World} {K : PySem.W.Frag} {mg : Str → Option Value} {base : Heap}
/-- called by place alone: the keyword-only parameters have their defaults -/
theorem mkD0 {x : Str} {st : Stmt} {N ps : List Str} {kwd : List (Str × V)} {k n : Nat} {sp : Sp} (d : DefKw K mg x st kwd) (S : FnScope N ps (defScope st)) (hk : kwd ≠ []) (hn : n + kwd.length = ps.length)
    (hb : ∀ (D : Addr) (doc pm : Value) (an : Option Addr) (cdv ct : Value) (us ks : List Value), us.length = n → ks.length = kwd.length →
      KwChain D ((kwd.map (·.1)).zip ks) (bindArgs (PySem.W.fnOf x x (defArgs st) (defBody st) (defScope st) .none (.ref D) doc pm an cdv ct) ⟨us, []⟩) (ps.zip (us ++ ks)))
    (len : ∀ vs H Q E, sp vs H Q E → vs.length = ps.length)
    (body : ∀ (f : Addr) (cdv : Value) (A : Around) (outer : List Env) (s : Shared) (H : Hp) (vs : List V) (Q : VK) (E : XK), Room k (A.deeper (envOfC x (defScope st) s.heap.objs.size f cdv)) → sp vs H Q E →
      ∃ t, PSs (cxOf C8.CX0 P w K mg base N x (defScope st) f cdv A outer s H E).nox (defBody st) t ∧ t { nx := fun _ H' => Q .non H', rt := Q } (start N vs) H) : C8.Cal P w K mg base (k + 1) x sp (kwd.map (·.2)) := by
  obtain ⟨f, fd, F, hm⟩ := d
  obtain ⟨ds, r, b⟩ := F.binds0 n hk hn hb
  exact ⟨f, fd, ps, ds, F.ok S len (fun cdv A outer s H vs Q E hr hsp => let ⟨t, h, q⟩ := body f cdv A outer s H vs Q E hr hsp; ⟨t, h.nox, q⟩), hm, F.kp, b, r⟩
/-- called with names for all that is written by name -/
theorem mkKg {x : Str} {st : Stmt} {N ps ks : List Str} {kwd : List (Str × V)} {k n : Nat} {sp : Sp} (d : DefKw K mg x st kwd) (S : FnScope N ps (defScope st)) (g : {α : Type} → List α → List α → List α)
    (hrel : ∀ {vs : List V} {us : List Value} {zs : List V} {ws : List Value}, Vals vs us → Vals zs ws → Vals (g vs zs) (g us ws))
    (hb : ∀ (kV doc pm : Value) (an : Option Addr) (cdv ct : Value) (us ws : List Value), us.length = n → ws.length = ks.length → bindArgs (PySem.W.fnOf x x (defArgs st) (defBody st) (defScope st) .none kV doc pm an cdv ct) ⟨us, ks.zip ws⟩ = pure (ps.zip (g us ws)))
    (len : ∀ vs H Q E, sp vs H Q E → vs.length = ps.length)
    (body : ∀ (f : Addr) (cdv : Value) (A : Around) (outer : List Env) (s : Shared) (H : Hp) (vs : List V) (Q : VK) (E : XK), Room k (A.deeper (envOfC x (defScope st) s.heap.objs.size f cdv)) → sp vs H Q E →
      ∃ t, PSs (cxOf C8.CX0 P w K mg base N x (defScope st) f cdv A outer s H E).nox (defBody st) t ∧ t { nx := fun _ H' => Q .non H', rt := Q } (start N vs) H) : CalK P w K mg base (k + 1) x sp n ks (fun vs zs => g vs zs) := by
  obtain ⟨f, fd, F, hm⟩ := d
  exact ⟨f, fd, ps, fun us ws => g us ws, F.ok S len (fun cdv A outer s H vs Q E hr hsp => let ⟨t, h, q⟩ := body f cdv A outer s H vs Q E hr hsp; ⟨t, h.nox, q⟩), hm, F.kp, kbnK F hrel hb⟩
end
theorem hd_cons1 {c : Cell} {o : HO} {H : Hp} {L : List Cell} (h : Hd H L) (e : H c.1 = some o) (q : c.2 o) (n : ∀ d ∈ L, d.1 ≠ c.1) : Hd H (c :: L) := ⟨List.nodup_cons.mpr ⟨fun z => by
  obtain ⟨d, hd, e⟩ := List.mem_map.mp z
  exact n d hd e, h.nd⟩, fun d hd => by
  rcases List.mem_cons.mp hd with rfl | hd
  · exact ⟨o, e, q⟩
  · exact h.at_ d hd⟩
/-! ### steps -/
section
variable {K : PySem.W.Frag} {σ : L2.St} {H : Hp} {Q : VK} {L M : List Cell} {p : Addr} {xs : List V}
theorem w_callNS {n m : Nat} {sp : Sp} {gV : List V → List V → List V} {E : L2.St → XK} {t tk : TA} (h : t σ H fun vs H1 => tk σ H1 fun zs H2 => vs.length = n ∧ zs.length = m ∧ sp (gV vs zs) H2 Q (E σ)) : tCallNS n m sp gV E t tk σ H Q := h
theorem w_callS {sp : Sp} {E : L2.St → XK} {t : TA} (h : t σ H fun vs H1 => sp vs H1 Q (E σ)) : tCallS sp E t σ H Q := h
theorem g_clear (hh : Hd H L) (k : Pk L (lstC p xs) M) (q : ∀ H2, Hd H2 (lstC p [] :: M) → Q .non H2) : rClear (.ref p) [] H Q := ⟨p, xs, rfl, rfl, (hh.pk k).lst (List.mem_cons_self ..), q _ (hh.chgL k Chg.of)⟩
end
end Wk
set_option Elab.async false
set_option linter.all false
set_option maxRecDepth 100000
set_option maxHeartbeats 4000000
/-! Wk: comprehensions with a test, over enumerate; cells that are told by a list. -/
namespace Wk
open PySem PySem.Spec PyProof.Rows L2
/-! ### comprehensions -/
def KLcE (K : PySem.W.Frag) (g : TG) (tt : TT) (te : TE) (us : List Nat) (σ : L2.St) (Q : VK) (vs : List V) (H : Hp) : Prop := ∃ a xs, vs = [.ref a] ∧ SqL K H a xs ∧ KLc (Ite K a) g tt te us σ H Q
section
variable {K : PySem.W.Frag} {σ : L2.St} {H : Hp} {Q : VK} {L : List Cell} {te tl : TE} {ta : TA} {tt : TT} {g : TG} {us : List Nat} {n m : Nat} {j : Int} {a : Addr} {xs : List V}
theorem w_lcE (h : ta σ H fun vs H1 => KLcE K g tt te us σ Q vs H1) : tLc (iEnum K ta) g tt te us σ H Q := h
theorem set2_none {n m : Nat} {x y : Option V} (h : n ≠ m) : ((((((σ.set m none).set n none).set n x).set m y).set m none).set n none) = (σ.set m none).set n none := by
  refine List.ext_getElem? fun k => ?_
  simp only [List.getElem?_set, List.length_set]
  split <;> split <;> simp_all
/-- [e for i, x in enumerate(xs) if t] -/
theorem lc_E (hnm : n ≠ m) (h : SqL K H a xs) (Pv : Nat → Addr → Hp → Prop) (h0 : ∀ D H1, New H H1 D (.lst []) → Pv 0 D H1) (hl : ∀ i D H, i ≤ xs.length → Pv i D H → SqL K H a xs)
    (hs : ∀ (i : Nat) x D H H', xs[i]? = some x → Pv i D H → Upt [] H H' → tt ((((σ.set m none).set n none).set n (some (.int (i : Int)))).set m (some x)) H' fun b H3 =>
      if b = true then te ((((σ.set m none).set n none).set n (some (.int (i : Int)))).set m (some x)) H3 (KApp D (Pv (i + 1) D)) else Pv (i + 1) D H3)
    (hd : ∀ D H, Pv xs.length D H → Q (.ref D) H) : KLcE K (gTup K 2 (gCons (gName n) (gCons (gName m) gNil))) tt te [n, m] σ Q [.ref a] H := by
  refine ⟨a, xs, rfl, h, fun D hD => ?_⟩
  refine lc_it walk_enum (fun i H => Pv i D H) (h0 D _ (New.of hD)) (fun i H hi p => hl i D H hi p) (fun i x H H' hi p y => ?_) fun H p => hd D H p
  obtain ⟨T, u, v, rfl, hT, rfl, hu, hv⟩ := y
  cases hu
  have nw := New.of (H := H) (o := HO.tup [V.int (i : Int), v]) hT
  refine w_gtup (SqT.of nw.at_) rfl ?_
  refine w_gcons (w_gname (w_gcons (w_gname (w_gnil ⟨?_, ?_⟩))))
  · exact set2_none hnm
  · exact hs i v D H _ hv p nw.keep
/-- [e for k in range(m) if t] -/
theorem lc_RF (hj : j = (m : Int)) (hb : m ≤ 1000000) (Pv : Nat → Addr → Hp → Prop) (h0 : ∀ D H1, New H H1 D (.lst []) → Pv 0 D H1)
    (hs : ∀ (i : Nat) D H, i < m → Pv i D H → tt ((σ.set n none).set n (some (.int (i : Int)))) H fun b H3 => if b = true then te ((σ.set n none).set n (some (.int (i : Int)))) H3 (KApp D (Pv (i + 1) D)) else Pv (i + 1) D H3)
    (hd : ∀ D H, Pv m D H → Q (.ref D) H) : KLcR (gName n) tt te [n] σ Q [.int j] H := by
  subst hj
  refine ⟨(m : Int), rfl, by omega, by omega, fun D hD => ?_⟩
  rw [show ((m : Int)).toNat = m by simp]
  refine lc_it (walk_range (lo := 0) (n := m)) (fun i H => Pv i D H) (h0 D _ (New.of hD)) (fun _ _ _ _ => trivial) (fun i x H H' hi p y => ?_) fun H p => hd D H p
  obtain ⟨rfl, rfl⟩ := y
  simp only [Int.zero_add]
  refine w_gname ⟨?_, hs i D _ hi p⟩
  show List.set (List.set (List.set σ n none) n (some (V.int (i : Int)))) n none = List.set σ n none
  simp
/-- [e for x in xs if t] -/
theorem lc_LF (h : SqL K H a xs) (Pv : Nat → Addr → Hp → Prop) (h0 : ∀ D H1, New H H1 D (.lst []) → Pv 0 D H1) (hl : ∀ i D H, i ≤ xs.length → Pv i D H → SqL K H a xs)
    (hs : ∀ (i : Nat) x D H, xs[i]? = some x → Pv i D H → tt ((σ.set n none).set n (some x)) H fun b H3 => if b = true then te ((σ.set n none).set n (some x)) H3 (KApp D (Pv (i + 1) D)) else Pv (i + 1) D H3)
    (hd : ∀ D H, Pv xs.length D H → Q (.ref D) H) : KLcL K (gName n) tt te [n] σ Q (.ref a) H := by
  refine ⟨a, rfl, ⟨xs, h⟩, fun D hD => ?_⟩
  refine lc_it walk_list (fun i H => Pv i D H) (h0 D _ (New.of hD)) (fun i H hi p => hl i D H hi p) (fun i x H H' hi p y => ?_) fun H p => hd D H p
  obtain ⟨rfl, hx⟩ := y
  refine w_gname ⟨?_, hs i x D _ hx p⟩
  show List.set (List.set (List.set σ n none) n (some x)) n none = List.set σ n none
  simp
theorem g_lcE (hh : Hd H L) (hnm : n ≠ m) (h : SqL K H a xs) (Pv : Nat → Addr → Hp → Prop) (h0 : ∀ D H1, Hd H1 (lstC D [] :: L) → Pv 0 D H1) (hl : ∀ i D H, i ≤ xs.length → Pv i D H → SqL K H a xs)
    (hs : ∀ (i : Nat) x D H H', xs[i]? = some x → Pv i D H → Upt [] H H' → tt ((((σ.set m none).set n none).set n (some (.int (i : Int)))).set m (some x)) H' fun b H3 =>
      if b = true then te ((((σ.set m none).set n none).set n (some (.int (i : Int)))).set m (some x)) H3 (KApp D (Pv (i + 1) D)) else Pv (i + 1) D H3)
    (hd : ∀ D H, Pv xs.length D H → Q (.ref D) H) : KLcE K (gTup K 2 (gCons (gName n) (gCons (gName m) gNil))) tt te [n, m] σ Q [.ref a] H := lc_E hnm h Pv (fun D H1 nn => h0 D H1 (hh.newL nn)) hl hs hd
theorem g_lcRF (hh : Hd H L) (hj : j = (m : Int)) (hb : m ≤ 1000000) (Pv : Nat → Addr → Hp → Prop) (h0 : ∀ D H1, Hd H1 (lstC D [] :: L) → Pv 0 D H1)
    (hs : ∀ (i : Nat) D H, i < m → Pv i D H → tt ((σ.set n none).set n (some (.int (i : Int)))) H fun b H3 => if b = true then te ((σ.set n none).set n (some (.int (i : Int)))) H3 (KApp D (Pv (i + 1) D)) else Pv (i + 1) D H3)
    (hd : ∀ D H, Pv m D H → Q (.ref D) H) : KLcR (gName n) tt te [n] σ Q [.int j] H := lc_RF hj hb Pv (fun D H1 nn => h0 D H1 (hh.newL nn)) hs hd
theorem g_lcLF (hh : Hd H L) (h : SqL K H a xs) (Pv : Nat → Addr → Hp → Prop) (h0 : ∀ D H1, Hd H1 (lstC D [] :: L) → Pv 0 D H1) (hl : ∀ i D H, i ≤ xs.length → Pv i D H → SqL K H a xs)
    (hs : ∀ (i : Nat) x D H, xs[i]? = some x → Pv i D H → tt ((σ.set n none).set n (some x)) H fun b H3 => if b = true then te ((σ.set n none).set n (some x)) H3 (KApp D (Pv (i + 1) D)) else Pv (i + 1) D H3)
    (hd : ∀ D H, Pv xs.length D H → Q (.ref D) H) : KLcL K (gName n) tt te [n] σ Q (.ref a) H := lc_LF h Pv (fun D H1 nn => h0 D H1 (hh.newL nn)) hl hs hd
end
/-! ### cells that are told by a list -/
theorem Hd.subl {H : Hp} {L A : List Cell} (h : Hd H L) (s : List.Sublist A L) : Hd H A := ⟨(s.map Prod.fst).nodup h.nd, fun c hc => h.at_ c (s.subset hc)⟩
/-- the page of a slot: its list's place and its words -/
abbrev Pg := Option (Addr × List Int)
def pgV : Pg → V
  | none => .non
  | some p => .ref p.1
def pgK : Pg → List Cell
  | none => []
  | some p => [lstC p.1 (p.2.map V.int)]
def pgC (ps : List Pg) : List Cell := ps.flatMap pgK
theorem pgC_perm : ∀ {ps : List Pg} {i : Nat} (p : Pg), i < ps.length → (pgC (ps.set i p)).Perm (pgK p ++ pgC (ps.set i none))
  | q :: ps, 0, p, _ => by
    show (pgK p ++ pgC ps).Perm (pgK p ++ ([] ++ pgC ps))
    exact List.Perm.refl _
  | q :: ps, i + 1, p, h => by
    have ih := pgC_perm (ps := ps) (i := i) p (by simpa using h)
    show (pgK q ++ pgC (ps.set i p)).Perm (pgK p ++ (pgK q ++ pgC (ps.set i none)))
    refine (List.Perm.append_left _ ih).trans ?_
    rw [← List.append_assoc, ← List.append_assoc]
    exact List.Perm.append_right _ List.perm_append_comm
theorem pgC_none : ∀ {ps : List Pg} {i : Nat}, List.Sublist (pgC (ps.set i none)) (pgC ps)
  | [], _ => List.Sublist.refl _
  | q :: ps, 0 => List.sublist_append_right (pgK q) (pgC ps)
  | q :: ps, i + 1 => by
    show List.Sublist (pgK q ++ pgC (ps.set i none)) (pgK q ++ pgC ps)
    exact List.Sublist.append (List.Sublist.refl _) pgC_none
theorem pgC_mem {ps : List Pg} {i : Nat} {a : Addr} {ws : List Int} (h : ps[i]? = some (some (a, ws))) : lstC a (ws.map V.int) ∈ pgC ps :=
  List.mem_flatMap.mpr ⟨some (a, ws), List.mem_of_getElem? h, List.mem_singleton.mpr rfl⟩
section
variable {H H' : Hp} {L R : List Cell} {ps : List Pg} {i : Nat} {a : Addr} {ws vs : List Int}
/-- a new page stands in slot i -/
theorem Hd.pgNew (h : Hd H (lstC a (ws.map V.int) :: (pgC ps ++ R))) (hi : i < ps.length) : Hd H (pgC (ps.set i (some (a, ws))) ++ R) := by
  refine Hd.perm (Hd.subl h (List.Sublist.cons₂ _ (List.Sublist.append (pgC_none (i := i)) (List.Sublist.refl R)))) ?_
  exact ((pgC_perm (some (a, ws)) hi).append_right R).symm
/-- the page of slot i, by itself -/
theorem Hd.pgGet (h : Hd H (pgC ps ++ R)) (hp : ps[i]? = some (some (a, ws))) : Hd H (lstC a (ws.map V.int) :: (pgC (ps.set i none) ++ R)) := by
  have hi := (List.getElem?_eq_some_iff.mp hp).1
  have e : ps.set i (some (a, ws)) = ps := by
    obtain ⟨_, e⟩ := List.getElem?_eq_some_iff.mp hp
    rw [← e, List.set_getElem_self]
  have h2 : Hd H (pgC (ps.set i (some (a, ws))) ++ R) := by rw [e]; exact h
  exact Hd.perm h2 ((pgC_perm (some (a, ws)) hi).append_right R)
theorem Hd.pgPut (h : Hd H (lstC a (ws.map V.int) :: (pgC (ps.set i none) ++ R))) (hi : i < ps.length) : Hd H (pgC (ps.set i (some (a, ws))) ++ R) :=
  Hd.perm h ((pgC_perm (some (a, ws)) hi).append_right R).symm
end
end Wk
set_option Elab.async false
set_option linter.all false
set_option maxRecDepth 100000
set_option maxHeartbeats 4000000
/-! Wk: isinstance(e, (A, B, ..)) of a handled error. -/
namespace Wk
open PySem PySem.Spec PyProof.Rows L2
/-- isinstance(e, t), e the pinned error of the class D with its dict at dd, t a tuple of own classes -/
def rIsPT (K : PySem.W.Frag) (D a dd : Addr) : List V → Hp → VK → Prop := fun xs H Q =>
  ∃ (p : Addr) (cs : List Addr) (b : Bool) (fs : List (Str × V)), xs = [.ref a, .ref p] ∧ SqT K H p (cs.map V.ref) ∧ PySem.W.kitAny K (.ref D) (cs.map Value.ref) = some b ∧ H dd = some (.xd fs) ∧ Q (.bl b) H
theorem vals_refs : ∀ {cs : List Addr} {us : List Value}, Vals (cs.map V.ref) us → us = cs.map Value.ref
  | [], _, .nil => rfl
  | c :: cs, _, .cons (b := u) r t => by
    obtain rfl : u = Value.ref c := r
    rw [vals_refs t]
    rfl
theorem call_isPT {X : Cx} {a D dd : Addr} {oe : Obj} (C : ExcC X.K D) (hp : (a, oe) ∈ X.pn) (hz : L2.Zc (.ref D) (some dd) oe) (hf : ∃ vs, oe.data = .fields vs) : CallR X (.builtin "isinstance") (rIsPT X.K D a dd) := by
  intro pins s σ H xs us Q I r h
  obtain ⟨p, cs, b, fs, rfl, hq, e, hd, q⟩ := h
  cases r with
  | cons rx rr =>
    cases rr with
    | cons rt rr =>
      cases rr
      cases rx
      cases rt
      obtain ⟨its, rv, ht, _⟩ := I.tuple hq
      obtain ⟨ot, hot, hct, n, hdt⟩ := _root_.id ht
      obtain rfl := vals_refs rv
      obtain ⟨hget, _⟩ := I.pin (a, oe) (List.mem_append_left _ hp)
      obtain ⟨vs, hv⟩ := hf
      have ho : ObjOk X.prog X.w H s.heap dd (.xd fs) := I.hok dd _ hd
      obtain ⟨od, hod⟩ := objOk_get ho
      have J : PySem.W.InstAt s.heap a oe D (some od) := ⟨hget, hz.1, by unfold PySem.W.notCls; rw [hv] <;> rfl, by rw [hz.2]; exact hod⟩
      have hcl : (PySem.W.clsIn X.K D).isSome = true := by
        obtain ⟨cd, hc, _⟩ := PySem.W.any_some C.hd
        rw [hc]
        rfl
      obtain ⟨oc, od', odata, osl⟩ := ot
      cases hct
      cases hdt
      exact PySem.W.kia_tup (PySem.W.kitx_exc hcl C.hg C.hk C.hs C.ha C.hn C.ht C.hm) I.kIn J hot e (fun z => nomatch z) fun tk => ⟨.bl b, H, I.kept (t' := tk) fun _ _ z => z, rfl, q⟩
theorem c_isPT {K : PySem.W.Frag} {D a dd p : Addr} {fs : List (Str × V)} {cs : List Addr} {b : Bool} {H : Hp} {Q : VK} (hd : H dd = some (.xd fs)) (hq : SqT K H p (cs.map V.ref)) (e : PySem.W.kitAny K (.ref D) (cs.map Value.ref) = some b) (q : Q (.bl b) H) : CB (rIsPT K D a dd) [.ref a, .ref p] H Q :=
  ⟨p, cs, b, fs, rfl, hq, e, hd, q⟩
end Wk
set_option Elab.async false
set_option linter.all false
set_option maxRecDepth 100000
set_option maxHeartbeats 4000000
/-! Wk: a def that may raise, called by keywords alone. -/
namespace Wk
open PySem PySem.Spec PyProof.Rows L2
def tCallKS (m : Nat) (sp : Sp) (gV : List V → List V → List V) (E : L2.St → XK) (tk : TA) : TE := fun σ H Q => tk σ H fun zs H2 => zs.length = m ∧ sp (gV [] zs) H2 Q (E σ)
section
variable {X : Cx} {k j : Nat} {sp : Sp} {x : Str} {p pos : Pos} {kws : List Keyword} {tk : TA} {ks : List Str} {gV : List V → List V → List V} {W : WX}
theorem pe_ckN (c : CalKN X.prog X.w X.K X.mg X.base k x sp 0 ks gV) (hr : Room j X.A) (hk : k ≤ j) (tk' : L2N.Takes X W) (hg : Gl X x) (hkw : PK X kws tk)
    (hall : (backToKw pos (keywordEach kws X.env)).all (·.1.isSome) = true := by rfl) (hks : (backToKw pos (keywordEach kws X.env)).filterMap (·.1) = ks := by rfl)
    (hdb : (x == ("__debug__" : Str)) = false := by decide)
    (hpl : ((backTo pos (starEach [] X.env)).any (·.1) || (backToKw pos (keywordEach kws X.env)).any (·.1.isNone)) = false := by rfl) :
    PE X (.Call (.Name x p) [] kws pos) (tCallKS ks.length sp gV (WE W) tk) := by
  obtain ⟨f, fd, ps, g, F, hm, kp, b⟩ := c.ex
  refine ⟨fun pins s σ H Q I h => ?_⟩
  refine wpAny_Call_Name_kw (ld_glob I hg hm ?_ hdb)
  refine PySem.W.callWith_KW0 (h₀ := X.base) I.ok.mod.kin kp hall ?_ hpl
  refine thn (hkw.run pos pins s σ H _ I h) fun ws s2 ⟨zs, H2, I2, rz, l2, q2⟩ => ⟨I2.kIn, ?_⟩
  rw [hks]
  exact run_kwS F (hr.mono hk) b (L2N.passAt tk' σ) I2 .nil rz rfl l2 q2
end
end Wk
set_option Elab.async false
set_option linter.all false
set_option maxRecDepth 100000
set_option maxHeartbeats 4000000
/-! Wk: max(xs, key=x.m), x.m a method of an own class that changes nothing: the first of the greatest. -/
namespace Wk
open PySem PySem.Spec PyProof.Rows L2
/-- the first one of the greatest -/
def FstMax (n : Nat) (kf : Nat → Int) (i : Nat) : Prop := ∀ j, j < n → kf i ≥ kf j ∧ (j < i → kf i > kf j)
def rMaxK (K : PySem.W.Frag) (g : Addr) (sp : Sp) : List V → List V → Hp → VK → Prop := fun vs zs H Q =>
  ∃ (a q self : Addr) (xs : List V) (kf : Nat → Int), vs = [.ref a] ∧ zs = [.ref q] ∧ SqL K H a xs ∧ 0 < xs.length ∧ H q = some (.met g self) ∧
    (∀ (i : Nat) (v : V), xs[i]? = some v → ∀ Q' : VK, Q' (.int (kf i)) H → sp [.ref self, v] H Q' (fun _ _ _ => False)) ∧
    ∀ (i : Nat) (v : V), xs[i]? = some v → FstMax xs.length kf i → Q v H
section
variable {X : Cx} {pins : List (Addr × Obj)} {σ : L2.St} {H : Hp} {k : Nat} {g a q self I S : Addr} {sp : Sp} {xs : List V} {kf : Nat → Int} {Q : VK}
/-- the key's call -/
theorem key_turn {pn : List (Addr × Obj)} {s : Shared} {v : V} {u : Value} {n : Int} (F : FnR X.prog X.w X.K X.mg X.base C8.CX0 k g sp) (hr : Room (k + 1) X.A) (J : Inv X pn σ H s) (hq : H q = some (.met g self)) (r : RelV v u)
    (hs : ∀ Q' : VK, Q' (.int n) H → sp [.ref self, v] H Q' (fun _ _ _ => False)) :
    wpAny (model X.prog X.w) X.A.in1 (call (.ref q) [u]) (fun y s' => (∃ t, y = .int n t) ∧ Inv X pn σ H s') (fun _ _ => False) s := by
  refine wpAny_call (PySem.W.method_call (J.hok q _ hq) (codeAny_mono (F X.A.in1 X.stack s H [.ref self, u] [.ref self, v] (fun y H' => y = .int n ∧ H' = H) (fun _ _ _ => False) hr.in1 ⟨J.env0.frames, J.env0.mod, J.env0.bs, J.env0.bsz, J.env0.funs, J.env0.frf, J.env0.hok, J.env0.bare⟩ (.cons rfl (.cons r .nil)) (hs _ ⟨rfl, rfl⟩)) fun r s' hq => ?_))
  cases r with
  | error e => exact False.elim hq
  | ok fl =>
    cases fl with
    | ret y =>
      have h2 : EP X pn σ (fun y H' => y = .int n ∧ H' = H) y s' := J.after hq
      obtain ⟨v', H', J', r', rfl, rfl⟩ := h2
      exact ⟨r', J'⟩
    | next => exact False.elim hq
    | brk => exact False.elim hq
    | cont => exact False.elim hq
def RmaxE (X : Cx) (pins : List (Addr × Obj)) (σ : L2.St) (Q : VK) (r : Result) (s' : Shared) : Prop := match r with
  | .ok (.ret v) => EP X pins σ Q v s'
  | .ok _ => False
  | .error e => X.xe e s'
theorem off_iter {s : Shared} {its : Array Value} {n : Nat} {l : Addr} (h : PlainL s.heap a its) (hi : s.heap.IsListIter I l n) : a ≠ I := by
  rintro rfl
  obtain ⟨o, m, e, c, _⟩ := h
  obtain ⟨o', e', c', _⟩ := hi
  rw [e] at e'
  cases e'
  rw [c] at c'
  exact absurd c' (by decide)
theorem max_loop (F : FnR X.prog X.w X.K X.mg X.base C8.CX0 k g sp) (hr : Room (k + 1) X.A) (hS : SqL X.K H a xs) (hq : H q = some (.met g self)) (hSI : S ≠ I)
    (hs : ∀ (i : Nat) (v : V), xs[i]? = some v → ∀ Q' : VK, Q' (.int (kf i)) H → sp [.ref self, v] H Q' (fun _ _ _ => False))
    (hQ : ∀ (i : Nat) (v : V), xs[i]? = some v → FstMax xs.length kf i → Q v H) :
    ∀ (r j i : Nat) (s : Shared) (vb : Value) (y : V) (tb : Tok) (c : Nat), xs.length - (j + 1) = r → j + 1 ≤ xs.length → Inv X pins σ H s → FpOk X pins H I → FpOk X pins H S →
      s.heap.get? S = some (seqObj "list" #[vb, .int (kf i) tb] c) → s.heap.IsListIter I a (j + 1) → xs[i]? = some y → RelV y vb → i ≤ j → (∀ j', j' ≤ j → kf i ≥ kf j' ∧ (j' < i → kf i > kf j')) →
      codeAny (model X.prog X.w) X.A (.builtin "max.loop" ⟨[.ref I, .ref q, .ref S], []⟩) (RmaxE X pins σ Q) s := by
  have hname : (toString "max" ++ toString ".loop" : String) = "max.loop" := by decide
  have hh : X.A.in1.handled = none := hr.hd
  intro r
  induction r with
  | zero =>
    intro j i s vb y tb c er hj J fI fS nS hit hy ry hij hbest
    have hin : j + 1 = xs.length := by omega
    obtain ⟨its, rv, pl, hz⟩ := J.list hS
    have hsz : its.toArray.size = xs.length := by rw [List.size_toArray, rv.length]
    have haI := off_iter pl hit
    have W := Walks.list (prog := X.prog) (w := X.w) (A := X.A.in1) hh I a haI its.toArray
    refine codeAny_builtin PySem.F.entry_max_loop ?_
    rw [Around.under_plainId PySem.F.plain_max_loop _]
    show wpAny _ X.A.in1 (seqItems? (.ref S) >>= _) _ _ _
    refine wpAny_bind (wpAny_seqItems nS rfl ?_)
    show wpAny _ X.A.in1 (tryCatch (pyNext (.ref I)) _ >>= _) _ _ _
    refine wpAny_bind (wpAny_tryCatch (W.done _ _ _ ⟨by rw [hsz, ← hin]; exact hit, pl.isList⟩ fun h' tk' hk' => ?_))
    have J1 : Inv X pins σ H { s with heap := h', toks := tk' } := J.turnedL (ch := [I]) hk' fun b hb => by rw [List.mem_singleton.mp hb]; exact fI
    have hS' := hk' S _ (by simpa using hSI) nS
    have s1 := Heap.SameBut.update h' S (Obj.mapSeq fun _ => (#[] : Array Value))
    show wpAny _ X.A.in1 (updateSeq S (fun _ => #[]) >>= _) _ _ _
    refine wpAny_bind ?_
    refine wpAny_updateSeq hS' rfl (wpAny_bind (wpAny_letGo (wpAny_pure ?_)))
    exact ⟨y, H, J1.turnedL (ch := [S]) (fun b o hb e => (s1.2 b (fun z => hb (List.mem_singleton.mpr z))).trans e) (fun b hb => by rw [List.mem_singleton.mp hb]; exact fS), ry, hQ i y hy fun j' hj' => hbest j' (by omega)⟩
  | succ r ih =>
    intro j i s vb y tb c er hj J fI fS nS hit hy ry hij hbest
    have hlt : j + 1 < xs.length := by omega
    obtain ⟨its, rv, pl, hz⟩ := J.list hS
    have hsz : its.toArray.size = xs.length := by rw [List.size_toArray, rv.length]
    have haI := off_iter pl hit
    have W := Walks.list (prog := X.prog) (w := X.w) (A := X.A.in1) hh I a haI its.toArray
    refine codeAny_builtin PySem.F.entry_max_loop ?_
    rw [Around.under_plainId PySem.F.plain_max_loop _]
    show wpAny _ X.A.in1 (seqItems? (.ref S) >>= _) _ _ _
    refine wpAny_bind (wpAny_seqItems nS rfl ?_)
    show wpAny _ X.A.in1 (tryCatch (pyNext (.ref I)) _ >>= _) _ _ _
    refine wpAny_bind (wpAny_tryCatch (W.item (j + 1) _ _ _ (by rw [hsz]; exact hlt) ⟨hit, pl.isList⟩ fun v h' tk' hP hst' hk' => ?_))
    have hv : its[j + 1]? = some v := by simpa using hP
    have hx : xs[j + 1]? = some xs[j + 1] := List.getElem?_eq_getElem hlt
    obtain ⟨v', hv', rxv⟩ := rv.get hx
    rw [hv] at hv'
    cases hv'
    obtain ⟨oI', hoI', hoc, hod⟩ := id hst'.1
    have J1 : Inv X pins σ H { s with heap := h', toks := tk' } := J.turnedL (ch := [I]) hk' fun b hb => by rw [List.mem_singleton.mp hb]; exact fI
    have nS1 := hk' S _ (by simpa using hSI) nS
    have J2 : Inv X (pins ++ [(S, seqObj "list" #[vb, .int (kf i) tb] c), (I, oI')]) σ H { s with heap := h', toks := tk' } := J1.pins_of fun p hp => by
      rcases List.mem_append.mp hp with hp | hp
      · exact J1.pin p (List.mem_append_right _ hp)
      · rcases List.mem_cons.mp hp with rfl | hp
        · exact ⟨nS1, fS.1, fS.2.1, fS.2.2.1, fun v e => by cases e⟩
        · rw [List.mem_singleton.mp hp]
          exact ⟨hoI', fI.1, fI.2.1, fI.2.2.1, fun v e => by rw [hod] at e; cases e⟩
    show wpAny _ X.A.in1 (tryCatch (holding [v] (call (.ref q) [v])) _ >>= _) _ _ _
    refine wpAny_bind (wpAny_tryCatch (wpAny_holding (wpAny_mono (key_turn F hr J2 hq rxv (hs (j + 1) _ hx)) (fun x s2 he => ?_) fun _ _ hF => hF.elim)))
    obtain ⟨⟨t2, rfl⟩, J3⟩ := he
    have nS2 := (J3.pin (S, seqObj "list" #[vb, .int (kf i) tb] c) (List.mem_append_right _ (List.mem_append_right _ (List.mem_cons_self ..)))).1
    have nI2 := (J3.pin (I, oI') (List.mem_append_right _ (List.mem_append_right _ (List.mem_cons_of_mem _ (List.mem_cons_self ..))))).1
    have J4 : Inv X pins σ H s2 := J3.unpinned
    have hit2 : s2.heap.IsListIter I a (j + 1 + 1) := ⟨oI', nI2, hoc, hod⟩
    show wpAny _ X.A.in1 (tryCatch (holding [v, .int (kf (j + 1)) t2] (richCompare .Gt (.int (kf (j + 1)) t2) (.int (kf i) tb) >>= _)) _ >>= _) _ _ _
    refine wpAny_bind (wpAny_tryCatch (wpAny_holding (wpAny_bind (CmpOf.ints_gt (prog := X.prog) (w := X.w) (A := X.A.in1) (P := fun i v => ∃ t, v = .int (kf i) t) kf (fun i v h => h) (j + 1) i _ _ _ _ _ ⟨t2, rfl⟩ ⟨tb, rfl⟩ ?_))))
    refine wpAny_bind (wpAny_holding (wpAny_truthy_bool ?_))
    refine wpAny_bind (wpAny_letGo (wpAny_pure ?_))
    by_cases hb' : kf (j + 1) > kf i
    · have s1 := Heap.SameBut.update s2.heap S (Obj.mapSeq fun _ => #[v, .int (kf (j + 1)) t2])
      obtain ⟨c2, hc2⟩ : ∃ c2, (s2.heap.update S (Obj.mapSeq fun _ => #[v, .int (kf (j + 1)) t2])).get? S = some (seqObj "list" #[v, .int (kf (j + 1)) t2] c2) := ⟨_, get?_update_seq nS2 fun _ => #[v, .int (kf (j + 1)) t2]⟩
      simp only [hb', decide_true, if_true]
      refine wpAny_bind ?_
      refine wpAny_updateSeq nS2 rfl (wpAny_bind (wpAny_letGo ?_))
      rw [hname]
      refine wpAny_pure ⟨plainId_quiet PySem.F.plain_max_loop _, ih (j + 1) (j + 1) _ v _ t2 c2 (by omega) hlt (J4.turnedL (ch := [S]) (fun b o hb e => (s1.2 b (fun z => hb (List.mem_singleton.mpr z))).trans e) (fun b hb => by rw [List.mem_singleton.mp hb]; exact fS)) fI fS hc2 ⟨oI', (s1.2 I hSI.symm).trans nI2, hoc, hod⟩ hx rxv (Nat.le_refl _) fun j' hj' => ?_⟩
      by_cases e : j' = j + 1
      · subst e
        exact ⟨by omega, fun _ => by omega⟩
      · have hb1 := hbest j' (by omega)
        have hb2 := hb1.1
        exact ⟨by omega, fun _ => by omega⟩
    · simp only [hb', decide_false, Bool.false_eq_true, if_false]
      refine wpAny_bind (wpAny_letGo ?_)
      rw [hname]
      refine wpAny_pure ⟨plainId_quiet PySem.F.plain_max_loop _, ih (j + 1) i _ vb y tb c (by omega) hlt J4 fI fS nS2 hit2 hy ry (by omega) fun j' hj' => ?_⟩
      by_cases e : j' = j + 1
      · subst e
        exact ⟨by omega, fun _ => by omega⟩
      · exact hbest j' (by omega)
theorem cr_maxK (F : FnR X.prog X.w X.K X.mg X.base C8.CX0 k g sp) (hr : Room (k + 1) X.A) : CallRK X (.builtin "max") [Str.ofString "key"] (rMaxK X.K g sp) := by
  intro pins s σ H vs zs us ws Q I0 r rz h
  obtain ⟨a, q, self, xs, kf, rfl, rfl, hS, h0, hq, hs, hQ⟩ := h
  obtain rfl := Vals.ref1 r
  obtain ⟨w1, rfl, e1⟩ := vals1 rz
  obtain rfl : w1 = Value.ref q := by cases e1; rfl
  have hname : (toString "max" ++ toString ".loop" : String) = "max.loop" := by decide
  have hh : X.A.in1.handled = none := hr.hd
  obtain ⟨its, rv, pl, hz⟩ := I0.list hS
  have hls := pl.isList
  have hsz : its.toArray.size = xs.length := by rw [List.size_toArray, rv.length]
  refine kmk_tree PySem.F.kind_max PySem.F.plain_max PySem.F.entry_max (kmk_max_key _ _) ?_
  show wpAny _ X.A.in1 (Builtin.Builtins.bindParams "max" ["key", "default"] 0 ⟨[], [(Str.ofString "key", .ref q)]⟩ >>= _) _ _ s
  refine wpAny_bind (wpAny_of_eq (show Builtin.Builtins.bindParams "max" ["key", "default"] 0 ⟨[], [(Str.ofString "key", .ref q)]⟩ = pure [some (.ref q), none] from rfl) ?_)
  refine wpAny_bind (wpAny_pure ?_)
  refine wpAny_bind (wpAny_pyIter_list hls ?_)
  refine wpAny_bind (wpAny_newList ?_ (Nat.zero_le _))
  rw [hname]
  have hS2 : (s.heap.push { cls := .type "list_iterator", data := .fields #[.ref a, .int 0 0] }).objs.size = s.heap.objs.size + 1 := size_push' ..
  have hSI : (s.heap.push { cls := .type "list_iterator", data := .fields #[.ref a, .int 0 0] }).objs.size ≠ s.heap.objs.size := by rw [hS2]; exact Nat.ne_of_gt (Nat.lt_succ_self _)
  refine wpAny_pure ⟨plainId_quiet PySem.F.plain_max_loop _, ?_⟩
  have gI : ((s.heap.push { cls := .type "list_iterator", data := .fields #[.ref a, .int 0 0] }).push (seqObj "list" #[] 0)).get? s.heap.objs.size = some { cls := .type "list_iterator", data := .fields #[.ref a, .int 0 0] } :=
    Heap.get?_push_of_some _ (Heap.get?_push_size _ rfl)
  have gS : ((s.heap.push { cls := .type "list_iterator", data := .fields #[.ref a, .int 0 0] }).push (seqObj "list" #[] 0)).get? (s.heap.push { cls := .type "list_iterator", data := .fields #[.ref a, .int 0 0] }).objs.size = some (seqObj "list" #[] 0) := Heap.get?_push_size _ rfl
  have fI : FpOk X pins H s.heap.objs.size := I0.fpOk (Nat.le_refl _) (I0.hok.fresh (Nat.le_refl _))
  have fS : FpOk X pins H (s.heap.push { cls := .type "list_iterator", data := .fields #[.ref a, .int 0 0] }).objs.size := I0.fpOk (by rw [hS2]; exact Nat.le_succ _) (I0.hok.fresh (by rw [hS2]; exact Nat.le_succ _))
  generalize (s.heap.push { cls := .type "list_iterator", data := .fields #[.ref a, .int 0 0] }).objs.size = S at gS hSI fS ⊢
  generalize hI : s.heap.objs.size = I at gI hSI fI ⊢
  have J0 : Inv X pins σ H { s with heap := (s.heap.push { cls := .type "list_iterator", data := .fields #[.ref a, .int 0 0] }).push (seqObj "list" #[] 0) } := I0.kept (t' := s.toks) fun b u e => Heap.get?_push_of_some _ (Heap.get?_push_of_some _ e)
  have pl2 : PlainL ((s.heap.push { cls := .type "list_iterator", data := .fields #[.ref a, .int 0 0] }).push (seqObj "list" #[] 0)) a its.toArray := pl.at fun o e => Heap.get?_push_of_some _ (Heap.get?_push_of_some _ e)
  have haI : a ≠ I := by rw [← hI]; exact Nat.ne_of_lt pl.lt
  have W := Walks.list (prog := X.prog) (w := X.w) (A := X.A.in1) hh I a haI its.toArray
  refine codeAny_builtin PySem.F.entry_max_loop ?_
  rw [Around.under_plainId PySem.F.plain_max_loop _]
  show wpAny _ X.A.in1 (seqItems? (.ref S) >>= _) _ _ _
  refine wpAny_bind (wpAny_seqItems gS rfl ?_)
  show wpAny _ X.A.in1 (tryCatch (pyNext (.ref I)) _ >>= _) _ _ _
  refine wpAny_bind (wpAny_tryCatch (W.item 0 _ _ _ (by rw [hsz]; exact h0) ⟨⟨_, gI, rfl, rfl⟩, pl2.isList⟩ fun v h' tk' hP hst' hk' => ?_))
  have hv : its[0]? = some v := by simpa using hP
  have hx : xs[0]? = some xs[0] := List.getElem?_eq_getElem h0
  obtain ⟨v', hv', rxv⟩ := rv.get hx
  rw [hv] at hv'
  cases hv'
  obtain ⟨oI', hoI', hoc, hod⟩ := id hst'.1
  have J1 : Inv X pins σ H { s with heap := h', toks := tk' } := Inv.turnedL (s := { s with heap := (s.heap.push { cls := .type "list_iterator", data := .fields #[.ref a, .int 0 0] }).push (seqObj "list" #[] 0) }) (h' := h') (t' := tk') (ch := [I]) J0 hk' fun b hb => by rw [List.mem_singleton.mp hb]; exact fI
  have nS1 := hk' S _ (by simpa using hSI) gS
  have J2 : Inv X (pins ++ [(S, seqObj "list" #[] 0), (I, oI')]) σ H { s with heap := h', toks := tk' } := J1.pins_of fun p hp => by
    rcases List.mem_append.mp hp with hp | hp
    · exact J1.pin p (List.mem_append_right _ hp)
    · rcases List.mem_cons.mp hp with rfl | hp
      · exact ⟨nS1, fS.1, fS.2.1, fS.2.2.1, fun v e => by cases e⟩
      · rw [List.mem_singleton.mp hp]
        exact ⟨hoI', fI.1, fI.2.1, fI.2.2.1, fun v e => by rw [hod] at e; cases e⟩
  show wpAny _ X.A.in1 (tryCatch (holding [v] (call (.ref q) [v])) _ >>= _) _ _ _
  refine wpAny_bind (wpAny_tryCatch (wpAny_holding (wpAny_mono (key_turn F hr J2 hq rxv (hs 0 _ hx)) (fun x s2 he => ?_) fun _ _ hF => hF.elim)))
  obtain ⟨⟨t2, rfl⟩, J3⟩ := he
  have nS2 := (J3.pin (S, seqObj "list" #[] 0) (List.mem_append_right _ (List.mem_append_right _ (List.mem_cons_self ..)))).1
  have nI2 := (J3.pin (I, oI') (List.mem_append_right _ (List.mem_append_right _ (List.mem_cons_of_mem _ (List.mem_cons_self ..))))).1
  have J4 : Inv X pins σ H s2 := J3.unpinned
  have s1 := Heap.SameBut.update s2.heap S (Obj.mapSeq fun _ => #[v, .int (kf 0) t2])
  obtain ⟨c2, hc2⟩ : ∃ c2, (s2.heap.update S (Obj.mapSeq fun _ => #[v, .int (kf 0) t2])).get? S = some (seqObj "list" #[v, .int (kf 0) t2] c2) := ⟨_, get?_update_seq nS2 fun _ => #[v, .int (kf 0) t2]⟩
  show wpAny _ X.A.in1 (updateSeq S (fun _ => #[v, .int (kf 0) t2]) >>= _) _ _ _
  refine wpAny_bind ?_
  refine wpAny_updateSeq nS2 rfl ?_
  rw [hname]
  refine wpAny_pure ⟨plainId_quiet PySem.F.plain_max_loop _, max_loop F hr hS hq hSI hs hQ _ 0 0 _ v _ t2 c2 rfl h0 (J4.turnedL (ch := [S]) (fun b o hb e => (s1.2 b (fun z => hb (List.mem_singleton.mpr z))).trans e) (fun b hb => by rw [List.mem_singleton.mp hb]; exact fS)) fI fS hc2 ⟨oI', (s1.2 I hSI.symm).trans nI2, hoc, hod⟩ hx rxv (Nat.le_refl _) fun j' hj' => ?_⟩
  have e : j' = 0 := by omega
  subst e
  exact ⟨by omega, fun h => absurd h (Nat.lt_irrefl _)⟩
end
end Wk
set_option Elab.async false
set_option linter.all false
set_option maxRecDepth 100000
set_option maxHeartbeats 4000000
/-! Wk: x in o by an own __contains__; x.m as a value. -/
namespace Wk
open PySem PySem.Spec PyProof.Rows L2
def rInOwn (C : Addr) (sp : Sp) : R2 := fun x y H Q => ∃ a dx fs, y = .ref a ∧ H a = some (.ins C dx fs) ∧ sp [.ref a, x] H (fun v H' => ∃ b, v = .bl b ∧ Q (.bl b) H') C8.E0
section
variable {X : Cx} {k j : Nat} {C : Addr} {sp : Sp}
theorem contains_own {pins : List (Addr × Obj)} {s : Shared} {σ : L2.St} {H : Hp} {x : V} {v : Value} {a dx : Addr} {fs : List (Str × V)} {R : Bool → Hp → Prop} {QQ : Bool → Shared → Prop} (c : C8.Met X.prog X.w X.K X.mg X.base k C "__contains__" sp []) (hr : Room j X.A) (hk : k ≤ j) (I : Inv X pins σ H s) (rx : RelV x v) (e : H a = some (.ins C dx fs))
    (q : sp [.ref a, x] H (fun v H' => ∃ b, v = .bl b ∧ R b H') C8.E0) (hQ : ∀ b H' s', Inv X pins σ H' s' → R b H' → QQ b s') : wpAny (model X.prog X.w) X.A (contains (.ref a) v) QQ X.xe s := by
  obtain ⟨f, fd, ps, ds, hc, hm, F, b, d⟩ := c.ex
  obtain ⟨mA, O, _, _, _, _⟩ := ins_get I.hok e
  obtain ⟨od, J, hl⟩ := O.look
  have ht : PySem.W.typeIn X.K (.ref f) = some (.type "function") := beq_iff_eq.mp hm.fn
  have sp1 : ∀ {Q' : Option Value → Shared → Prop} {s1 : Shared}, s1.heap = s.heap → Q' (some (.ref f)) s1 → wpAny (model X.prog X.w) X.A (specialOf (.ref a) "__contains__") Q' X.xe s1 := fun {Q' s1} eh h => by
    have X' : X.K.In s1.heap := by rw [eh]; exact I.kIn
    obtain ⟨ox, J'⟩ : ∃ ox, PySem.W.InstAt s1.heap a ox C od := ⟨_, by rw [eh]; exact J⟩
    unfold specialOf
    exact wpAny_bind (J'.type.here ((PySem.W.looks_findIn X' hm.at_).here h))
  unfold contains
  refine wpAny_holding ?_
  show wpAny _ _ (specialOf (.ref a) "__contains__" >>= _) _ _ _
  refine wpAny_bind (sp1 rfl ?_)
  rw [if_neg (by intro h; cases h)]
  try refine wpAny_bind (wpAny_pure ?_)
  unfold callSpecialUnlessNone?
  refine wpAny_bind ?_
  refine wpAny_bind (sp1 rfl ?_)
  refine wpAny_holding ?_
  refine wpAny_bind ((PySem.W.bind_fn I.kIn _ ht).here ?_)
  dsimp only
  rw [if_neg (by intro h; cases h)]
  try refine wpAny_bind (wpAny_pure ?_)
  refine wpAny_bind ?_
  refine wpAny_mono (run_fn F (hr.mono hk) b d C8.pass0 I (us := [.ref a, v]) (vs := [.ref a, x]) (.cons rfl (.cons rx .nil)) q) (fun u s' he => ?_) fun _ _ h => h
  obtain ⟨w, H', I', rw', bb, rfl, hR⟩ := he
  have eu : u = .bool bb := by cases rw'; rfl
  subst eu
  refine wpAny_pure ?_
  exact wpAny_truthy_bool (hQ bb H' s' I' hR)
theorem op_in_own (c : C8.Met X.prog X.w X.K X.mg X.base k C "__contains__" sp []) (hr : Room j X.A) (hk : k ≤ j) : OpR X (compareOp .In) (rInOwn C sp) := by
  intro pins s σ H x y v u Q I rx ry h
  obtain ⟨a, dx, fs, rfl, e, q⟩ := h
  cases ry
  show wpAny _ _ (contains (.ref a) v >>= _) _ _ _
  refine wpAny_bind (contains_own c hr hk I rx e q fun b H' s' I' hq => ?_)
  exact wpAny_pure ⟨.bl b, H', I', rfl, hq⟩
/-- o.m as a value -/
def tBnd (C : Addr) (m : Str) (g : Addr) (ta : TE) : TE := fun σ H Q => ta σ H fun x H1 => ∃ a dx fs, x = .ref a ∧ H1 a = some (.ins C dx fs) ∧ fs.lookup m = none ∧ ∀ p, H1 p = none → Q (.ref p) (upd H1 p (.met g a))
theorem pe_bnd {o : Expr} {m : Str} {g : Addr} {ta : TE} {pos : Pos} (c : Cls X.K C) (k : BMeth X.K C m g) (he : PE X o ta) (hab : attributeBase o m X.env (eval o X.env) = eval o X.env := by rfl) : PE X (.Attribute o m pos) (tBnd C m g ta) := by
  refine ⟨fun pins s σ H Q I h => ?_⟩
  refine attr_of hab (thn (he.run pins s σ H _ I h) fun u s1 ⟨x, H1, I1, rx, a, dx, fs, ex, ea, l, q⟩ => ?_)
  subst ex
  exact op_getbound I1 ea c k l rx q
end
end Wk
set_option Elab.async false
set_option linter.all false
set_option maxRecDepth 100000
set_option maxHeartbeats 4000000
/-! Wk: o.m(e, .., k = v): a method called by place and by name; methods with defaults of both kinds. -/
namespace Wk
open PySem PySem.Spec PyProof.Rows L2
structure MetP (P : Program) (w : World) (K : PySem.W.Frag) (mg : Str → Option Value) (base : Heap) (k : Nat) (C : Addr) (m : Str) (sp : Sp) (n : Nat) (ks : List Str) (gV : List V → List V → List V) : Prop where
  ex : ∃ (f : Addr) (fd : FuncData) (ps : List Str) (g : List Value → List Value → List Value), Cls K C ∧ Meth K C m f ∧ FnOk P w K mg base C8.CX0 k f fd ps sp ∧ KBn K fd ps (n + 1) ks g gV
def tMethP (C : Addr) (m : Str) (n nk : Nat) (sp : Sp) (gV : List V → List V → List V) (E : XK) (ta : TE) (t tk : TA) : TE := fun σ H Q => ta σ H fun x H1 => ∃ a dx fs, x = .ref a ∧ H1 a = some (.ins C dx fs) ∧ fs.lookup m = none ∧ t σ H1 fun vs H2 => tk σ H2 fun zs H3 => vs.length = n ∧ zs.length = nk ∧ sp (gV (x :: vs) zs) H3 Q E
section
variable {X : Cx} {k j n : Nat} {C : Addr} {m : Str} {sp : Sp} {ks : List Str} {gV : List V → List V → List V} {o e : Expr} {es : List Expr} {kws : List Keyword} {ta : TE} {t tk : TA} {pos apos : Pos}
theorem pe_mtP {pl : Sem Bool} (c : MetP X.prog X.w X.K X.mg X.base k C m sp n ks gV) (hr : Room j X.A) (hk : k ≤ j) (he : PE X o ta) (ha : PA X (e :: es) t) (hkw : PK X kws tk)
    (hall : (backToKw pos (keywordEach kws X.env)).all (·.1.isSome) = true := by rfl) (hks : (backToKw pos (keywordEach kws X.env)).filterMap (·.1) = ks := by rfl)
    (hst : starEach (e :: es) X.env = (false, eval e X.env) :: starEach es X.env := by rfl)
    (hpl : ((backTo pos (starEach (e :: es) X.env)).any (·.1) || (backToKw pos (keywordEach kws X.env)).any (·.1.isNone)) = false := by rfl)
    (ht : eval (.Call (.Attribute o m apos) (e :: es) kws pos) X.env = (do
      let ov ← eval o X.env
      standAt apos.atName
      let (f, first) ← holding [ov] (getMethod ov m pl)
      callWith pos f first (backTo pos (starEach (e :: es) X.env)) (backToKw pos (keywordEach kws X.env))) := by rfl) :
    PE X (.Call (.Attribute o m apos) (e :: es) kws pos) (tMethP C m n ks.length sp gV C8.E0 ta t tk) := by
  obtain ⟨f, fd, ps, g, hc, hm, F, b⟩ := c.ex
  refine ⟨fun pins s σ H Q I h => ?_⟩
  refine PySem.W.methodCall_KW (pl := pl) (thn (he.run pins s σ H _ I h) fun u s1 ⟨x, H1, I1, rx, a, dx, fs, ex, ea, l, q⟩ => ?_) ht
  subst ex
  obtain rfl : u = Value.ref a := rx
  refine getmeth_ok I1 ea hc hm l ?_
  refine PySem.W.callWith_KW (first := [.ref a]) (h₀ := X.base) I.ok.mod.kin hm.kp hall (thn (ha.run pos pins s1 σ H1 _ I1 q) fun us s2 ⟨vs, H2, I2, r, q2⟩ => ?_) hpl hst
  refine thn (hkw.run pos pins s2 σ H2 _ I2 q2) fun ws s3 ⟨zs, H3, I3, rz, l1, l2, q3⟩ => ⟨I3.kIn, ?_⟩
  rw [hks]
  exact run_fnN (us := .ref a :: us) (vs := .ref a :: vs) F (hr.mono hk) b C8.pass0 I3 (.cons rfl r) rz (congrArg (· + 1) l1) l2 q3
def KMethP (C : Addr) (m : Str) (n nk : Nat) (sp : Sp) (gV : List V → List V → List V) (E : XK) (t tk : TA) (σ : L2.St) (Q : VK) (x : V) (H1 : Hp) : Prop := ∃ a dx fs, x = .ref a ∧ H1 a = some (.ins C dx fs) ∧ fs.lookup m = none ∧ t σ H1 fun vs H2 => tk σ H2 fun zs H3 => vs.length = n ∧ zs.length = nk ∧ sp (gV (x :: vs) zs) H3 Q E
theorem w_methP {nk : Nat} {E : XK} {σ : L2.St} {H : Hp} {Q : VK} (h : ta σ H fun x H1 => KMethP C m n nk sp gV E t tk σ Q x H1) : tMethP C m n nk sp gV E ta t tk σ H Q := h
theorem g_methP {nk : Nat} {E : XK} {σ : L2.St} {H : Hp} {Q : VK} {L : List Cell} {a : Addr} {fs : List (Str × V)} (hh : Hd H L) (k : insC a C fs ∈ L) (l : fs.lookup m = none) (h : t σ H fun vs H2 => tk σ H2 fun zs H3 => vs.length = n ∧ zs.length = nk ∧ sp (gV (.ref a :: vs) zs) H3 Q E) : KMethP C m n nk sp gV E t tk σ Q (.ref a) H := let ⟨dx, e⟩ := hh.ins k; ⟨a, dx, fs, rfl, e, l, h⟩
end
end Wk
set_option Elab.async false
set_option linter.all false
set_option maxRecDepth 100000
set_option maxHeartbeats 4000000
/-! Wk: C.m(..), m a static method of an own class: by place, by keywords alone, where it may raise. -/
namespace Wk
open PySem PySem.Spec PyProof.Rows L2
/-- C.m is a static method: its record at p, its def at g -/
structure SMet (K : PySem.W.Frag) (C : Addr) (m : Str) (p g : Addr) : Prop where
  rd : PySem.W.readsIn K C (.type "type") = true
  ga : PySem.W.specialIn K (.ref C) "__getattribute__" = some (some (.builtin "type.__getattribute__"))
  at_ : PySem.W.findCls K (.ref C) (.type "type") m = some (.get (.builtin "staticmethod.__get__") (.ref p) .none (.ref C))
  rc : ∃ rest, PySem.W.recIn K p "staticmethod" = some (.ref g :: rest)
/-- such a def: by place (dvs fill up); by keywords alone; where it may raise -/
structure CalS (P : Program) (w : World) (K : PySem.W.Frag) (mg : Str → Option Value) (base : Heap) (k : Nat) (C : Addr) (m : Str) (sp : Sp) (dvs : List V) : Prop where
  ex : ∃ (p f : Addr) (fd : FuncData) (ps : List Str) (ds : List Value), SMet K C m p f ∧ FnOk P w K mg base C8.CX0 k f fd ps sp ∧ PySem.W.keepIn K (.ref f) = true ∧ Binds K fd ps ds ∧ Vals dvs ds
structure CalSK (P : Program) (w : World) (K : PySem.W.Frag) (mg : Str → Option Value) (base : Heap) (k : Nat) (C : Addr) (m : Str) (sp : Sp) (ks : List Str) (gV : List V → List V → List V) : Prop where
  ex : ∃ (p f : Addr) (fd : FuncData) (ps : List Str) (g : List Value → List Value → List Value), SMet K C m p f ∧ FnOk P w K mg base C8.CX0 k f fd ps sp ∧ PySem.W.keepIn K (.ref f) = true ∧ KBn K fd ps 0 ks g gV
structure CalSN (P : Program) (w : World) (K : PySem.W.Frag) (mg : Str → Option Value) (base : Heap) (k : Nat) (C : Addr) (m : Str) (sp : Sp) : Prop where
  ex : ∃ (p f : Addr) (fd : FuncData) (ps : List Str), SMet K C m p f ∧ FnOk P w K mg base (L2N.CX P w) k f fd ps sp ∧ PySem.W.keepIn K (.ref f) = true ∧ Binds K fd ps []
def tSt (C : Addr) (sp : Sp) (dvs : List V) (E : XK) (ta : TE) (t : TA) : TE := fun σ H Q => ta σ H fun x H1 => x = .ref C ∧ t σ H1 fun vs H2 => sp (vs ++ dvs) H2 Q E
def tStK (C : Addr) (n : Nat) (sp : Sp) (gV : List V → List V → List V) (E : XK) (ta : TE) (tk : TA) : TE := fun σ H Q => ta σ H fun x H1 => x = .ref C ∧ tk σ H1 fun zs H2 => zs.length = n ∧ sp (gV [] zs) H2 Q E
def tStS (C : Addr) (sp : Sp) (E : L2.St → XK) (ta : TE) (t : TA) : TE := fun σ H Q => ta σ H fun x H1 => x = .ref C ∧ t σ H1 fun vs H2 => sp vs H2 Q (E σ)
section
variable {X : Cx} {pins : List (Addr × Obj)} {σ : L2.St} {H : Hp} {s : Shared} {C p g : Addr} {m : Str} {A : Around} {E : Value → Shared → Prop}
theorem getst_ok {pl : Sem Bool} {Q : Value × List Value → Shared → Prop} (I : Inv X pins σ H s) (k : SMet X.K C m p g) (h : ∀ s', Inv X pins σ H s' → Q (.ref g, []) s') : wpAny (model X.prog X.w) A (getMethod (.ref C) m pl) Q E s := by
  obtain ⟨rest, hp⟩ := k.rc
  refine PySem.W.method_cls I.kIn k.ga ?_
  refine PySem.W.cls_bind I.kIn k.rd k.at_ ?_
  exact wpAny_call (PySem.W.sm_get (s := { s with toks := s.toks + 1 }) I.kIn hp (PySem.W.handed_on rfl (h _ (I.tok _))))
end
section
variable {X : Cx} {j k : Nat} {C : Addr} {m : Str} {sp : Sp} {dvs : List V} {ks : List Str} {gV : List V → List V → List V} {o e : Expr} {es : List Expr} {kws : List Keyword} {ta : TE} {t tk : TA} {pos apos : Pos} {W : WX}
theorem pe_st {pl : Sem Bool} (c : CalS X.prog X.w X.K X.mg X.base k C m sp dvs) (hr : Room j X.A) (hk : k ≤ j) (he : PE X o ta) (ha : PA X (e :: es) t)
    (hst : starEach (e :: es) X.env = (false, eval e X.env) :: starEach es X.env := by rfl) (hpl : (backTo pos (starEach es X.env)).any (·.1) = false := by rfl)
    (ht : eval (.Call (.Attribute o m apos) (e :: es) [] pos) X.env = (do
      let ov ← eval o X.env
      standAt apos.atName
      let (f, first) ← holding [ov] (getMethod ov m pl)
      callWith pos f first (backTo pos (starEach (e :: es) X.env)) (backToKw pos (keywordEach [] X.env))) := by rfl) :
    PE X (.Call (.Attribute o m apos) (e :: es) [] pos) (tSt C sp dvs C8.E0 ta t) := by
  obtain ⟨p, f, fd, ps, ds, sm, F, kp, b, d⟩ := c.ex
  refine ⟨fun pins s σ H Q I h => ?_⟩
  refine PySem.W.methodCall_KW (pl := pl) (thn (he.run pins s σ H _ I h) fun u s1 ⟨x, H1, I1, rx, ex, q⟩ => ?_) ht
  subst ex
  obtain rfl : u = Value.ref C := rx
  refine getst_ok I1 sm fun s2 I2 => ?_
  refine PySem.W.callWith_K (first := []) (h₀ := X.base) I.ok.mod.kin kp (thn (ha.run pos pins s2 σ H1 _ I2 q) fun us s3 ⟨vs, H2, I3, r, q2⟩ => ⟨I3.kIn, ?_⟩) hst hpl
  exact run_fn F (hr.mono hk) b d C8.pass0 I3 r q2
theorem pe_stK {pl : Sem Bool} (c : CalSK X.prog X.w X.K X.mg X.base k C m sp ks gV) (hr : Room j X.A) (hk : k ≤ j) (he : PE X o ta) (hkw : PK X kws tk)
    (hall : (backToKw pos (keywordEach kws X.env)).all (·.1.isSome) = true := by rfl) (hks : (backToKw pos (keywordEach kws X.env)).filterMap (·.1) = ks := by rfl)
    (hpl : ((backTo pos (starEach [] X.env)).any (·.1) || (backToKw pos (keywordEach kws X.env)).any (·.1.isNone)) = false := by rfl)
    (ht : eval (.Call (.Attribute o m apos) [] kws pos) X.env = (do
      let ov ← eval o X.env
      standAt apos.atName
      let (f, first) ← holding [ov] (getMethod ov m pl)
      callWith pos f first (backTo pos (starEach [] X.env)) (backToKw pos (keywordEach kws X.env))) := by rfl) :
    PE X (.Call (.Attribute o m apos) [] kws pos) (tStK C ks.length sp gV C8.E0 ta tk) := by
  obtain ⟨p, f, fd, ps, g, sm, F, kp, b⟩ := c.ex
  refine ⟨fun pins s σ H Q I h => ?_⟩
  refine PySem.W.methodCall_KW (pl := pl) (thn (he.run pins s σ H _ I h) fun u s1 ⟨x, H1, I1, rx, ex, q⟩ => ?_) ht
  subst ex
  obtain rfl : u = Value.ref C := rx
  refine getst_ok I1 sm fun s2 I2 => ?_
  refine PySem.W.callWith_KW0 (h₀ := X.base) I.ok.mod.kin kp hall ?_ hpl
  refine thn (hkw.run pos pins s2 σ H1 _ I2 q) fun ws s3 ⟨zs, H2, I3, rz, l2, q2⟩ => ⟨I3.kIn, ?_⟩
  rw [hks]
  exact run_fnN F (hr.mono hk) b C8.pass0 I3 .nil rz rfl l2 q2
theorem pe_stN {pl : Sem Bool} (c : CalSN X.prog X.w X.K X.mg X.base k C m sp) (hr : Room j X.A) (hk : k ≤ j) (tk : L2N.Takes X W) (he : PE X o ta) (ha : PA X (e :: es) t)
    (hst : starEach (e :: es) X.env = (false, eval e X.env) :: starEach es X.env := by rfl) (hpl : (backTo pos (starEach es X.env)).any (·.1) = false := by rfl)
    (ht : eval (.Call (.Attribute o m apos) (e :: es) [] pos) X.env = (do
      let ov ← eval o X.env
      standAt apos.atName
      let (f, first) ← holding [ov] (getMethod ov m pl)
      callWith pos f first (backTo pos (starEach (e :: es) X.env)) (backToKw pos (keywordEach [] X.env))) := by rfl) :
    PE X (.Call (.Attribute o m apos) (e :: es) [] pos) (tStS C sp (WE W) ta t) := by
  obtain ⟨p, f, fd, ps, sm, F, kp, b⟩ := c.ex
  refine ⟨fun pins s σ H Q I h => ?_⟩
  refine PySem.W.methodCall_KW (pl := pl) (thn (he.run pins s σ H _ I h) fun u s1 ⟨x, H1, I1, rx, ex, q⟩ => ?_) ht
  subst ex
  obtain rfl : u = Value.ref C := rx
  refine getst_ok I1 sm fun s2 I2 => ?_
  refine PySem.W.callWith_K (first := []) (h₀ := X.base) I.ok.mod.kin kp (thn (ha.run pos pins s2 σ H1 _ I2 q) fun us s3 ⟨vs, H2, I3, r, q2⟩ => ⟨I3.kIn, ?_⟩) hst hpl
  exact run_fnS F (hr.mono hk) b (fun pins H s e s' I x => L2N.passAt tk σ pins H s e s' I x) I3 r q2
end
/-! ### steps -/
def KSt (C : Addr) (sp : Sp) (dvs : List V) (E : XK) (t : TA) (σ : L2.St) (Q : VK) (x : V) (H1 : Hp) : Prop := x = .ref C ∧ t σ H1 fun vs H2 => sp (vs ++ dvs) H2 Q E
section
variable {C : Addr} {sp : Sp} {dvs : List V} {E : XK} {Es : L2.St → XK} {ta : TE} {t : TA} {σ : L2.St} {H : Hp} {Q : VK} {v : V} {n : Nat} {gV : List V → List V → List V}
theorem w_st (h : t σ H fun vs H2 => sp (vs ++ dvs) H2 Q E) : tSt C sp dvs E (tC (.ref C)) t σ H Q := ⟨rfl, h⟩
theorem w_stK (h : t σ H fun zs H2 => zs.length = n ∧ sp (gV [] zs) H2 Q E) : tStK C n sp gV E (tC (.ref C)) t σ H Q := ⟨rfl, h⟩
theorem w_stS (h : t σ H fun vs H2 => sp vs H2 Q (Es σ)) : tStS C sp Es (tC (.ref C)) t σ H Q := ⟨rfl, h⟩
end
end Wk
set_option Elab.async false
set_option linter.all false
set_option maxRecDepth 100000
set_option maxHeartbeats 4000000
/-! Wk: an own class whose __iter__ returns iter(a list): for x in o, list(o). -/
namespace Wk
open PySem PySem.Spec PyProof.Rows L2
/-- a def whose contract may speak of how large the heap is at the call -/
structure FnZ (P : Program) (w : World) (K : PySem.W.Frag) (mg : Str → Option Value) (base : Heap) (CX : CXT) (k : Nat) (f : Addr) (fd : FuncData) (ps : List Str) (sp : Nat → Sp) : Prop where
  len : ∀ n vs H Q E, sp n vs H Q E → vs.length = ps.length
  run : ∀ (A : Around) (outer : List Env) (s : Shared) (H : Hp) (args : Args) (us : List Value) (vs : List V) (Q : VK) (E : XK), Room k A → Env0 P w K mg base A outer s H → BindsTo s fd args (ps.zip us) → Vals vs us → sp s.heap.objs.size vs H Q E → codeAny (model P w) A (.call (.ref f) args) (CR CX outer P w H s Q E) s
theorem fn_ofZ {CX : CXT} {P : Program} {w : World} {K : PySem.W.Frag} {mg : Str → Option Value} {base : Heap} {k : Nat} {f : Addr} {name qual : Str} {params : Arguments} {body : List Stmt} {scope : Scope} {dV kV doc pm cdv ct oc : Value} {an od : Option Addr}
    {osl : Array (Option Value)} {N ps : List Str} {sp : Nat → Sp} (lk : K.lookup f = some ⟨oc, od, .func (PySem.W.fnOf name qual params body scope dV kV doc pm an cdv ct), osl⟩) (hcd : PySem.W.codeIn K cdv qual = true) (S : FnScope N ps scope)
    (len : ∀ n vs H Q E, sp n vs H Q E → vs.length = ps.length)
    (hbody : ∀ (A : Around) (outer : List Env) (s : Shared) (H : Hp) (vs : List V) (Q : VK) (E : XK), Room k (A.deeper (envOfC qual scope s.heap.objs.size f cdv)) → sp s.heap.objs.size vs H Q E →
      ∃ t, PSs (cxOf CX P w K mg base N qual scope f cdv A outer s H E) body t ∧ t { nx := fun _ H' => Q .non H', rt := Q } (L2.start N vs) H) :
    FnZ P w K mg base CX (k + 1) f (PySem.W.fnOf name qual params body scope dV kV doc pm an cdv ct) ps sp := by
  refine ⟨len, fun A outer s H args us vs Q E hr e0 hb r hsp => ?_⟩
  have hl := len _ _ _ _ _ hsp
  have KX : K.In s.heap := e0.mod.kin.keeps fun b o e => (e0.bs b o e).1
  have lim : s.heap.NoLimit := e0.mod.nolimit.keeps fun b o e => (e0.bs b o e).1
  have hkind : ∀ y ∈ ps.zip us, scope.names.lookup y.1 = some .local ∨ (scope.names.lookup y.1 = some .cell ∧ ((cellsFrom (s.heap.objs.size + 1) scope.names []).lookup y.1).isSome = true) := fun ⟨n, v⟩ hy => by
    rcases S.par n (List.of_mem_zip hy).1 with q | q
    · exact .inl q
    · exact .inr ⟨q, PySem.W.cellsFrom_some _ _ _ (.inl q)⟩
  refine codeAny_call_function hr.depth (KX _ _ lk) rfl S.co S.gen rfl (PySem.W.codeRec_of KX hcd) (hb _ _ _ _ ?_)
  refine wpAny_newFunctionEnv_cells S.kind hkind fun env he s1 x => ?_
  subst he
  refine ⟨lim.keeps x.toInCall.keep, codeAny_func ?_⟩
  obtain ⟨t, ht, hq⟩ := hbody A outer s H vs Q E (hr.deeper _) hsp
  have I : Inv (cxOf CX P w K mg base N qual scope f cdv A outer s H E) [] (L2.start N vs) H s1 := inv_start S hr.hd e0 hl r x
  refine wpAny_mono (ht.run [] s1 (L2.start N vs) H _ I hq) (fun fl s' hs => ?_) fun e s' hs => hs
  have fin : ∀ {σ' : L2.St} {H' : Hp} {v : V} {u : Value}, Inv (cxOf CX P w K mg base N qual scope f cdv A outer s H E) [] σ' H' s' → RelV v u → Q v H' → CE outer P w H s Q u s' :=
    fun {σ' H' v u} J rv q => ⟨v, H', J.os, J.bare, J.base, J.hok, rv, q⟩
  cases fl with
  | ret u =>
    obtain ⟨v, σ', H', J, rv, q⟩ := hs
    exact fin J rv q
  | next =>
    obtain ⟨σ', H', J, q⟩ := hs
    exact fin (v := V.non) (u := Value.none) J rfl q
  | brk =>
    obtain ⟨_, _, _, q⟩ := hs
    exact False.elim q
  | cont =>
    obtain ⟨_, _, _, q⟩ := hs
    exact False.elim q
/-- a class whose instances are iterated over by a def __iter__; without __len__ and __length_hint__ -/
structure ItrC (K : PySem.W.Frag) (C f : Addr) : Prop where
  it : PySem.W.findIn K (.ref C) "__iter__" = some (some (.ref f))
  itF : PySem.W.isFn K (.ref f) = true
  nolen : PySem.W.findIn K (.ref C) "__len__" = some none
  nohint : PySem.W.findIn K (.ref C) "__length_hint__" = some none
/-- __iter__ of o at a gives a new iterator over the list at l, where G a l H says which; no more -/
def spIt (G : Addr → Addr → Hp → Prop) : Nat → Sp := fun n vs H Q _ => ∃ a l, vs = [.ref a] ∧ G a l H ∧ ∀ it, H it = none → n ≤ it → Q (.ref it) (upd H it (ItO l it 0))
/-- such a class -/
structure ItrK (P : Program) (w : World) (K : PySem.W.Frag) (mg : Str → Option Value) (base : Heap) (k : Nat) (C : Addr) (G : Addr → Addr → Hp → Prop) : Prop where
  ex : ∃ (f : Addr) (fd : FuncData) (ps : List Str), ItrC K C f ∧ FnZ P w K mg base C8.CX0 k f fd ps (spIt G) ∧ Binds K fd ps []
section
variable {X : Cx} {pins : List (Addr × Obj)} {σ : L2.St} {H : Hp} {s : Shared} {k : Nat} {C a l dx : Addr} {fs : List (Str × V)} {G : Addr → Addr → Hp → Prop} {A1 : Around}
theorem run_iter {Q : Value → Shared → Prop} (c : ItrK X.prog X.w X.K X.mg X.base k C G) (sb : Sub X k A1) (I : Inv X pins σ H s) (ha : H a = some (.ins C dx fs)) (hG : G a l H)
    (q : ∀ it s', X.s_0.heap.objs.size ≤ it → H it = none → s'.heap.get? it = some (GNX.itObj l 0) → Inv X pins σ (upd H it (ItO l it 0)) s' → Q (.ref it) s') : wpAny (model X.prog X.w) A1 (pyIter (.ref a)) Q X.xe s := by
  obtain ⟨f, fd, ps, hc, F, b⟩ := c.ex
  obtain ⟨mA, J, _⟩ := ins_get I.hok ha
  obtain ⟨od, J, _⟩ := J.look
  obtain ⟨m, hF⟩ := I.fr
  refine PySem.W.owit_iter hF I.ok.mod.kin J hc.it hc.itF ?_
  have e0 : Env0 X.prog X.w X.K X.mg X.base A1 X.stack s H := by
    have e := I.env0
    exact ⟨by rw [sb.fr]; exact e.frames, e.mod, e.bs, e.bsz, e.funs, e.frf, e.hok, e.bare⟩
  have hsp : spIt G s.heap.objs.size [.ref a] H (fun v H' => ∃ it, v = .ref it ∧ H it = none ∧ s.heap.objs.size ≤ it ∧ H' = upd H it (ItO l it 0)) C8.E0 := ⟨a, l, rfl, hG, fun it h1 h2 => ⟨it, rfl, h1, h2, rfl⟩⟩
  have hl := F.len _ _ _ _ _ hsp
  have r2 : Vals [V.ref a] [Value.ref a] := .cons rfl .nil
  refine wpAny_call (codeAny_mono (F.run A1 X.stack s H ⟨[.ref a], []⟩ [.ref a] [.ref a] _ C8.E0 sb.room e0 (by
    have := b s [.ref a] I.kIn (by simpa using hl)
    simpa using this) r2 hsp) fun r s' hq => ?_)
  cases r with
  | error e => exact C8.pass0 (E := C8.E0) pins σ H s e s' I hq
  | ok fl =>
    cases fl with
    | next => exact False.elim hq
    | brk => exact False.elim hq
    | cont => exact False.elim hq
    | ret u =>
      obtain ⟨v, H', I', rv, it, ev, hn, hz, eH⟩ := I.after hq
      subst ev eH
      cases rv
      have ho := itO_get I' upd_same
      have hT : s'.TypeIs (.ref it) "list_iterator" := ⟨_, ho, rfl⟩
      unfold PySem.W.OwitIt
      refine wpAny_specialOf (name := Str.ofString "__next__") hT slot_listiter_next.lookup ?_
      exact q it s' (Nat.le_trans I.sz hz) hn ho I'
end
/-! ### for x in o -/
def iOwn (K : PySem.W.Frag) (C : Addr) (G : Addr → Addr → Hp → Prop) (te : TE) : TI := fun σ H R => te σ H fun x H1 => ∃ a l dx fs, x = .ref a ∧ H1 a = some (.ins C dx fs) ∧ G a l H1 ∧ R (Itl K l) H1
section
variable {X : Cx} {k j : Nat} {C : Addr} {G : Addr → Addr → Hp → Prop} {tg e : Expr} {te : TE}
theorem pi_own (c : ItrK X.prog X.w X.K X.mg X.base k C G) (hr : Room j X.A) (hk : k ≤ j) (he : PE X e te) : PI X tg e (iOwn X.K C G te) := by
  refine ⟨fun pins s σ H R I h => ?_⟩
  refine thn (he.run pins s σ H _ I h) fun u s1 ⟨x, H1, I1, rx, a, l, dx, fs, ex, ha, hG, q⟩ => ?_
  subst ex
  obtain rfl : u = Value.ref a := rx
  refine run_iter c ⟨hr.mono hk, rfl⟩ I1 ha hG fun it s2 hsz hn ho I2 => ?_
  have st : s2.heap.IsListIter it l 0 := ⟨_, ho, rfl, rfl⟩
  have hi : upd H1 it (ItO l it 0) it = some (ItO l it 0) := upd_same
  have hi' := hi
  unfold ItO at hi'
  have eH : ItX.dropH (upd H1 it (ItO l it 0)) it = H1 := ItX.dropH_upd hn
  refine ⟨it, [it], _, _, H1, rfl, eH ▸ ItX.inv_drop I2 hi', turn_list l it, st, fun b hb => ?_, q⟩
  have e : b = it := by simpa using hb
  rw [e]
  have z := ItX.inv_fp I2 hi hsz
  rw [eH] at z
  exact z
end
/-! ### list(o) -/
section
variable {X : Cx} {pins : List (Addr × Obj)} {σ : L2.St} {H : Hp} {s : Shared} {k : Nat} {C a l q it dx : Addr} {fs : List (Str × V)} {G : Addr → Addr → Hp → Prop} {A1 : Around} {xs : List V}
/-- what FpOk asks of the place alone -/
def ItOff (X : Cx) (pins : List (Addr × Obj)) (it : Addr) : Prop := it ≠ X.env.locals ∧ it ∉ X.fs ∧ (it ∈ X.ex ∨ X.s_0.heap.objs.size ≤ it) ∧ (∀ x c, X.env.cells.lookup x = some c → c ≠ it) ∧ ∀ p ∈ X.pn ++ pins, p.1 ≠ it
theorem lst_off {K : PySem.W.Frag} {v : HO} (h : SqL K H l xs) (hq : H q = none) : SqL K (upd H q v) l xs := h.upt (New.of (o := v) hq).keep
theorem iter_loop {Rs : Result → Shared → Prop} (hh : A1.in1.handled = none) (off : ItOff X pins it) (hi : H it = none) (hq : H q = none) (hne : it ≠ q) (hx : SqL X.K H l xs) (hz : xs.length < sizeLine) (hdone : ∀ s, Inv X pins σ (upd H q (.lst xs)) s → Rs (.ok (.ret .none)) s) :
    ∀ (m i : Nat) (s : Shared) (o : Obj), m = xs.length - i → i ≤ xs.length → Inv X ((it, o) :: pins) σ (upd H q (.lst (xs.take i))) s → o.cls = .type "list_iterator" → o.data = .fields #[.ref l, .int i 0] → codeAny (model X.prog X.w) A1 (.builtin "list.extend.loop" ⟨[.ref q, .ref it, .none], []⟩) Rs s := by
  intro m
  induction m with
  | zero =>
    intro i s o hm hi' I hc hd
    have ei : i = xs.length := by omega
    subst ei
    rw [List.take_length] at I
    obtain ⟨o1, o2, o3, o4, o5⟩ := off
    have ho := (I.pin (it, o) (List.mem_append_right _ List.mem_cons_self)).1
    have hit : upd H q (.lst xs) it = none := by rw [upd_ne hne]; exact hi
    have I0 : Inv X pins σ (upd H q (.lst xs)) s := I.pins_of fun p hp => I.pin p (List.mem_append_right _ (List.mem_cons_of_mem _ hp))
    obtain ⟨its, rv, p, _⟩ := I0.list (lst_off hx hq)
    refine codeAny_builtin PySem.F.entry_extend_loop ?_
    rw [Around.under_plainId PySem.F.plain_extend_loop _]
    show wpAny _ A1.in1 (pyNext (.ref it) >>= _) _ _ s
    have hl := rv.length
    refine wpAny_bind (wpAny_pyNext_list_end hh ⟨o, ho, hc, hd⟩ p.isList (by simp; omega) fun h' eb => ?_)
    exact wpAny_pure (hdone _ (I0.turned (t' := s.toks) (fun b ob hb e => eb b ob hb e) hit o1 o3 o4 o5))
  | succ m ih =>
    intro i s o hm hi' I hc hd
    have off' := off
    obtain ⟨o1, o2, o3, o4, o5⟩ := off
    have hlt : i < xs.length := by omega
    have ho := (I.pin (it, o) (List.mem_append_right _ List.mem_cons_self)).1
    have hit : upd H q (.lst (xs.take i)) it = none := by rw [upd_ne hne]; exact hi
    have I0 : Inv X pins σ (upd H q (.lst (xs.take i))) s := I.pins_of fun p hp => I.pin p (List.mem_append_right _ (List.mem_cons_of_mem _ hp))
    obtain ⟨its, rv, p, _⟩ := I0.list (lst_off hx hq)
    have hxi := List.getElem?_eq_getElem hlt
    obtain ⟨u, hu, ru⟩ := rv.get hxi
    refine codeAny_builtin PySem.F.entry_extend_loop ?_
    rw [Around.under_plainId PySem.F.plain_extend_loop _]
    show wpAny _ A1.in1 (pyNext (.ref it) >>= _) _ _ s
    refine wpAny_bind (wpAny_pyNext_list_item ⟨o, ho, hc, hd⟩ p.isList (x := u) (by simpa using hu) fun h' st' sb => ?_)
    have I1 : Inv X pins σ (upd H q (.lst (xs.take i))) { s with heap := h' } := I0.turned (t' := s.toks) (fun b ob hb e => (sb.2 b hb).trans e) hit o1 o3 o4 o5
    obtain ⟨o', e', c', d'⟩ := st'
    have I2 : Inv X ((it, o') :: pins) σ (upd H q (.lst (xs.take i))) { s with heap := h' } := I1.pins_of fun p hp => by
      rcases List.mem_cons.mp hp with e | e
      · subst e
        exact ⟨e', hit, o1, o2, fun v z => by rw [d'] at z; cases z⟩
      · exact I1.pin p (List.mem_append_right _ e)
    show wpAny _ A1.in1 (updateSeq q (·.push u) >>= _) _ _ _
    obtain ⟨z, its2, k2, r2, hl2, e2⟩ := I2.lstM upd_same
    refine wpAny_bind (wpAny_updateSeq e2 rfl (wpAny_pure ⟨plainId_quiet PySem.F.plain_extend_loop _, ?_⟩) (by rw [List.size_toArray, ← r2.length, List.length_take]; omega) (by show (its2.toArray.push u).size ≤ sizeLine + 1; rw [Array.size_push, List.size_toArray, ← r2.length, List.length_take]; omega))
    have hsz : (xs.take i ++ [xs[i]]).length ≤ sizeLine := by rw [List.length_append, List.length_take]; show min i xs.length + 1 ≤ sizeLine; omega
    have I3 := I2.lset (f := fun z => z.push u) (its' := its2 ++ [u]) (t' := s.toks) upd_same e2 (by simp) (r2.append (.cons ru .nil)) hsz
    rw [upd_upd, show xs.take i ++ [xs[i]] = xs.take (i + 1) by rw [List.take_succ, hxi]; rfl] at I3
    exact ih (i + 1) _ o' (by omega) hlt I3 c' d'
theorem itr_hint {M : Model} {A : Around} {E : Value → Shared → Prop} {Q : Bool → Shared → Prop} {K : PySem.W.Frag} {f : Addr} {ox : Obj} {od : Option Obj} (hc : ItrC K C f) (hK : K.In s.heap) (J : PySem.W.InstAt s.heap a ox C od) (h : Q true s) :
    wpAny M A (Builtin.List.listLengthHint (.ref a)) Q E s := by
  unfold Builtin.List.listLengthHint
  refine wpAny_bind (wpAny_bind (J.type.here ((PySem.W.looks_findIn hK hc.nolen).here ?_)))
  refine PySem.W.KFB.if_not rfl ?_
  refine PySem.W.KFB.if_not rfl ?_
  refine wpAny_bind (wpAny_bind (J.type.here ((PySem.W.looks_findIn hK hc.nohint).here ?_)))
  exact wpAny_pure h
end
/-- list(o) -/
def rLstOwn (K : PySem.W.Frag) (C : Addr) (G : Addr → Addr → Hp → Prop) : List V → Hp → VK → Prop := fun vs H Q => ∃ a l dx fs xs, vs = [.ref a] ∧ H a = some (.ins C dx fs) ∧ G a l H ∧ (∀ q, H q = none → G a l (upd H q (.lst []))) ∧ SqL K H l xs ∧ xs.length < sizeLine ∧ ∀ q, H q = none → Q (.ref q) (upd H q (.lst xs))
theorem upd_self' {H : Hp} {a : Addr} {o : HO} (h : H a = some o) : upd H a o = H := funext fun b => by
  by_cases hb : b = a
  · rw [hb, upd_same, h]
  · rw [upd_ne hb]
section
variable {X : Cx} {k : Nat} {C : Addr} {G : Addr → Addr → Hp → Prop}
theorem call_listO (c : ItrK X.prog X.w X.K X.mg X.base k C G) (hc : X.calm = true) (hr : Room (k + 2) X.A) : CallR X (.type "list") (rLstOwn X.K C G) := by
  intro pins s σ H vs us Q I rv h
  obtain ⟨a, l, dx, fs, xs, rfl, ha, hG, hGq, hx, hz, hq⟩ := h
  obtain ⟨u, rfl, ru⟩ := rv.one
  cases ru
  have sb : Sub X k X.A.in1.in1 := (Sub.in1 (Sub.in1 (⟨hr, rfl⟩ : Sub X (k + 2) X.A)))
  refine callType_codes (Q₁ := fun obj s₁ => obj = .ref s.heap.objs.size ∧ s₁ = { s with heap := s.heap.push { cls := .type "list", data := .seq #[] } }) PySem.F.called_list (PySem.F.typeCall_list_1 _) PySem.F.entry_list_init
    (code_list_new _ ⟨rfl, rfl⟩) fun obj s₁ h₁ => ?_
  obtain ⟨rfl, rfl⟩ := h₁
  have hS : (s.heap.push { cls := .type "list", data := .seq #[] }).get? s.heap.objs.size = some { cls := .type "list", data := .seq #[] } := Heap.get?_push_size _ rfl
  refine ⟨⟨_, hS, rfl⟩, PySem.F.args_list_init_2 _ _, ?_⟩
  have fr : H s.heap.objs.size = none := I.hok.fresh (Nat.le_refl _)
  have I1 : Inv X pins σ (upd H s.heap.objs.size (.lst [])) { s with heap := s.heap.push { cls := .type "list", data := .seq #[] } } := I.lnew (its := []) (t' := s.toks) .nil (Nat.zero_le _)
  show wpAny _ _ (do let old ← Builtin.List.listItems (.ref s.heap.objs.size); Builtin.List.listUpdate (.ref s.heap.objs.size) (fun _ => #[]); letGo old.toList.reverse; Builtin.List.listExtendWith (.ref s.heap.objs.size) (.ref a) .none) _ _ _
  refine wpAny_bind ?_
  unfold Builtin.List.listItems
  refine wpAny_bind (wpAny_seqItems hS rfl (wpAny_pure ?_))
  show wpAny _ _ (updateSeq s.heap.objs.size (fun _ => #[]) >>= fun _ => letGo (#[] : Array Value).toList.reverse >>= fun _ => Builtin.List.listExtendWith (.ref s.heap.objs.size) (.ref a) .none) _ _ _
  refine wpAny_bind (wpAny_updateSeq hS rfl ?_)
  have I2 := I1.lset (f := fun _ => #[]) (its := []) (its' := []) (ys := []) (t' := s.toks) upd_same hS rfl .nil (Nat.zero_le _)
  rw [upd_upd] at I2
  refine wpAny_bind (wpAny_letGo ?_)
  generalize hqe : s.heap.objs.size = q at *
  have ha2 : upd H q (.lst []) a = some (.ins C dx fs) := by rw [upd_ne (ne_of_none ha fr)]; exact ha
  have hne : q ≠ a := ne_of upd_same ha2 (fun z => nomatch z)
  obtain ⟨mA, J, _⟩ := ins_get I2.hok ha2
  obtain ⟨od, J, _⟩ := J.look
  unfold Builtin.List.listExtendWith
  refine wpAny_bind (J.type.here ?_)
  have h1 : Builtin.List.listSameRef (.ref q) (.ref a) = false := by simp [Builtin.List.listSameRef, hne]
  have h2 : (Value.ref C == Value.type "list") = false := rfl
  have h3 : (Value.ref C == Value.type "tuple") = false := rfl
  simp only [h1, h2, h3, Bool.or_false, Bool.false_eq_true, if_false]
  refine wpAny_bind (run_iter c sb I2 ha2 (hGq q fr) fun it s2 hsz hn ho I3 => ?_)
  have hit : it ≠ q := fun z => by rw [z, upd_same] at hn; cases hn
  have hi0 : H it = none := by rw [upd_ne hit] at hn; exact hn
  have hi' : upd (upd H q (.lst [])) it (ItO l it 0) it = some (ItO l it 0) := upd_same
  unfold ItO at hi'
  have fp := ItX.inv_fp I3 hi' hsz
  have I4 : Inv X pins σ (upd H q (.lst [])) s2 := by
    have z := ItX.inv_drop I3 hi'
    rw [show ItX.dropH (upd (upd H q (.lst [])) it (ItO l it 0)) it = upd H q (.lst []) from ItX.dropH_upd hn] at z
    exact z
  obtain ⟨_, o1, o2, o3, o4, o5⟩ := fp
  obtain ⟨f, fd, ps, hcI, F, b⟩ := c.ex
  obtain ⟨mA', J', _⟩ := ins_get I4.hok ha2
  obtain ⟨od', J', _⟩ := J'.look
  refine wpAny_bind (wpAny_holding (itr_hint hcI I4.kIn J' ?_))
  have pin : ∀ {s' : Shared}, s'.heap.get? it = some (GNX.itObj l 0) → Inv X pins σ (upd H q (.lst [])) s' → Inv X ((it, GNX.itObj l 0) :: pins) σ (upd H q (.lst (xs.take 0))) s' := fun ho' I' => by
    rw [List.take_zero]
    exact I'.pins_of fun p hp => by
      rcases List.mem_cons.mp hp with e | e
      · subst e
        exact ⟨ho', hn, o1, o2, fun v z => by cases z⟩
      · exact I'.pin p (List.mem_append_right _ e)
  have hh : X.A.in1.in1.handled = none := I.ok.hd hc
  have loop : ∀ {s' : Shared}, s'.heap.get? it = some (GNX.itObj l 0) → Inv X pins σ (upd H q (.lst [])) s' → codeAny (model X.prog X.w) X.A.in1 (.builtin "list.extend.loop" ⟨[.ref q, .ref it, .none], []⟩) (wants (fun r s₂ => r = .none ∧ EP X pins σ Q (.ref q) s₂) X.xe) s' := fun {s'} ho' I' =>
    iter_loop (A1 := X.A.in1) hh ⟨o1, o2, o3, o4, o5⟩ hi0 fr hit hx hz (fun s3 I5 => ⟨rfl, .ref q, _, I5, rfl, hq q fr⟩) _ 0 s' _ rfl (Nat.zero_le _) (pin ho' I') rfl rfl
  obtain ⟨z, its, k1, r3, hl3, e3⟩ := I4.lstM upd_same
  cases r3
  refine wpAny_ite_split (fun _ => ?_) (fun _ => wpAny_pure ⟨plainId_quiet PySem.F.plain_extend_loop _, loop ho I4⟩)
  refine wpAny_bind (wpAny_rule ?_)
  refine wpAny_bind ?_
  show wpAny _ _ (updateSeq q (·.push .none) >>= fun _ => updateSeq q (·.pop)) _ _ _
  have P4 : Inv X ((it, GNX.itObj l 0) :: pins) σ (upd H q (.lst [])) s2 := by
    have z := pin ho I4
    rw [List.take_zero] at z
    exact z
  refine wpAny_bind (wpAny_updateSeq e3 rfl ?_)
  have I5 := P4.lset (f := (·.push Value.none)) (its' := [Value.none]) (ys := [.non]) (t' := s2.toks) upd_same e3 (by simp) (.cons rfl .nil) (by rw [List.length_singleton, sizeLine_eq]; decide)
  obtain ⟨z4, its4, k4, r4, hl4, e4⟩ := I5.lstM upd_same
  obtain ⟨u4, rfl, ru4⟩ := r4.one
  refine wpAny_updateSeq e4 rfl ?_ (by show 1 ≤ sizeLine; rw [sizeLine_eq]; decide) (by show 0 ≤ sizeLine + 1; exact Nat.zero_le _)
  have I6 := I5.lset (f := (·.pop)) (its := [u4]) (its' := []) (ys := []) (t' := s2.toks) upd_same e4 (by rfl) .nil (Nat.zero_le _)
  rw [upd_upd, upd_upd] at I6
  have ho6 := (I6.pin (it, GNX.itObj l 0) (List.mem_append_right _ List.mem_cons_self)).1
  exact wpAny_pure ⟨plainId_quiet PySem.F.plain_extend_loop _, loop ho6 (I6.pins_of fun p hp => I6.pin p (List.mem_append_right _ (List.mem_cons_of_mem _ hp)))⟩
end
/-! ### steps -/
section
variable {K : PySem.W.Frag} {σ : L2.St} {H : Hp} {Q : VK} {L M : List Cell} {a p C : Addr} {xs : List V} {fs : List (Str × V)} {D : Ends} {f : Str} {n : Nat} {v i : Int}
theorem g_truL {R : Bool → Hp → Prop} (h : SqL K H p xs) (q : R (!xs.isEmpty) H) : ∃ k, TruV K (.ref p) H k ∧ R k H := ⟨_, .inl ⟨xs, h, rfl⟩, q⟩
theorem g_fldaug (hv : σ[n]? = some (some (.ref a))) (hh : Hd H L) (k : Pk L (insC a C fs) M) (c : Cls K C) (no : NoAttr K C f) (l : fs.lookup f = some (.int v)) (hl : fs.length < 1000) (q : ∀ H2, Hd H2 (insC a C (putF f (.int (v + i)) fs) :: M) → D.nx σ H2) :
    sFldAug K (tVar n) (tC (.int i)) rAdd f D σ H := by
  obtain ⟨dx, e⟩ := (hh.pk k).ins (List.mem_cons_self ..)
  exact ⟨_, hv, a, C, dx, fs, .int v, rfl, e, c, no, l, ⟨v, i, rfl, rfl, dx, fs, e, hl, q _ (hh.chgI k Chg.of)⟩⟩
end
end Wk
set_option Elab.async false
set_option linter.all false
set_option maxRecDepth 100000
set_option maxHeartbeats 4000000
/-! Wk: C(..), an own class whose __init__ may raise. -/
namespace Wk
open PySem PySem.Spec PyProof.Rows L2
structure MakN (P : Program) (w : World) (K : PySem.W.Frag) (mg : Str → Option Value) (base : Heap) (k : Nat) (x : Str) (C : Addr) (sp : Sp) : Prop where
  ex : ∃ (f : Addr) (fd : FuncData) (ps : List Str), Mk K C f ∧ FnOk P w K mg base (L2N.CX P w) k f fd ps sp ∧ mg x = some (.ref C) ∧ Binds K fd ps []
def tMakeS (C : Addr) (sp : Sp) (E : L2.St → XK) (t : TA) : TE := fun σ H Q => t σ H fun vs H1 => ∀ x dx, H1 x = none → H1 dx = none → dx ≠ x → sp (.ref x :: vs) (upd (upd H1 dx (.own x)) x (.ins C dx [])) (fun v H2 => v = .non ∧ Q (.ref x) H2) (E σ)
section
variable {X : Cx} {k j : Nat} {f C : Addr} {fd : FuncData} {ps : List Str} {sp : Sp} {x : Str} {p pos : Pos} {e : Expr} {es : List Expr} {t : TA} {W : WX}
theorem run_makeS {E : XK} {pins : List (Addr × Obj)} {σ : L2.St} {H : Hp} {s : Shared} {Q : VK} {us : List Value} {vs : List V} (M : Mk X.K C f) (F : FnOk X.prog X.w X.K X.mg X.base (L2N.CX X.prog X.w) k f fd ps sp) (hr : Room (k + 1) X.A) (hb : Binds X.K fd ps [])
    (hx : PassesAt (L2N.CX X.prog X.w) X σ E) (I : Inv X pins σ H s) (r : Vals vs us)
    (h : ∀ x dx, H x = none → H dx = none → dx ≠ x → sp (.ref x :: vs) (upd (upd H dx (.own x)) x (.ins C dx [])) (fun v H2 => v = .non ∧ Q (.ref x) H2) E) :
    wpAny (model X.prog X.w) X.A (call (.ref C) us) (EP X pins σ Q) X.xe s := by
  have hq := h (s.heap.objs.size + 1) s.heap.objs.size (I.hok.fresh (Nat.le_succ _)) (I.hok.fresh (Nat.le_refl _)) (Nat.ne_of_lt (Nat.lt_succ_self _))
  have I2 := Inv.made (C := C) I
  have r2 : Vals (V.ref (s.heap.objs.size + 1) :: vs) (Value.ref (s.heap.objs.size + 1) :: us) := .cons rfl r
  have hl : (Value.ref (s.heap.objs.size + 1) :: us ++ []).length = ps.length := by
    have e := r2.length
    rw [F.len _ _ _ _ hq] at e
    rw [List.append_nil]
    exact e.symm
  have b := hb _ (Value.ref (s.heap.objs.size + 1) :: us) I2.kIn hl
  rw [List.append_nil] at b
  refine wpAny_call (make_map (f := f) I.kIn M.makes M.init (beq_iff_eq.mp M.fn) (codeAny_mono (F.run _ X.stack _ _ ⟨Value.ref (s.heap.objs.size + 1) :: us, []⟩ (Value.ref (s.heap.objs.size + 1) :: us) _ _ E (hr.make C us [])
    (I2.env0.make C us []) b r2 hq) fun r s' hq' => ?_))
  cases r with
  | error e => exact hx pins _ _ e s' I2 hq'
  | ok fl =>
    cases fl with
    | ret u =>
      obtain ⟨v, H', I3, rv, ev, q3⟩ := I2.after hq'
      subst ev
      exact ⟨rv, ⟨V.ref (s.heap.objs.size + 1), H', I3, rfl, q3⟩⟩
    | next => exact False.elim hq'
    | brk => exact False.elim hq'
    | cont => exact False.elim hq'
theorem pe_mkN (c : MakN X.prog X.w X.K X.mg X.base k x C sp) (hr : Room j X.A) (hk : k + 1 ≤ j) (tk : L2N.Takes X W) (hg : Gl X x) (ha : PA X (e :: es) t)
    (hdb : (x == ("__debug__" : Str)) = false := by decide) (he : starEach (e :: es) X.env = (false, eval e X.env) :: starEach es X.env := by rfl) (hpl : (backTo pos (starEach es X.env)).any (·.1) = false := by rfl) :
    PE X (.Call (.Name x p) (e :: es) [] pos) (tMakeS C sp (WE W) t) := by
  obtain ⟨f, fd, ps, M, F, hm, b⟩ := c.ex
  refine ⟨fun pins s σ H Q I h => ?_⟩
  refine wpAny_Call_Name_kw (ld_glob I hg hm ?_ hdb)
  refine PySem.W.callWith_K (h₀ := X.base) I.ok.mod.kin M.kp (thn (ha.run pos pins s σ H _ I h) fun us s1 ⟨vs, H1, I1, r, q⟩ => ⟨I1.kIn, ?_⟩) he hpl
  exact run_makeS M F (hr.mono hk) b (L2N.passAt tk σ) I1 r q
end
end Wk
set_option Elab.async false
set_option linter.all false
set_option maxRecDepth 100000
set_option maxHeartbeats 4000000
namespace K45
open PySem PySem.Spec PyProof.Rows L2 Wk
def top (i : Nat) : Stmt := PySem.Challenge.pw_wardwork_k45_pipe_in_order.main.body.getD i (.Pass ⟨0, 0, 0, 0⟩)
/-- what the top leaves that the defs lean on -/
structure Txt (K : PySem.W.Frag) (mg : Str → Option Value) (aREG aOPS : Addr) : Prop extends Bt mg where
  g_WORDS : ∃ u, mg "WORDS" = some u ∧ RelV (.int 65536) u
abbrev FunT (K : PySem.W.Frag) (x : Str) (st : Stmt) (f : Addr) (fd : FuncData) : Prop := FunD K x x (defArgs st) (defBody st) (defScope st) [] [] f fd
/-- a def of the module that stands under its name -/
def DefAt (K : PySem.W.Frag) (mg : Str → Option Value) (x : Str) (st : Stmt) : Prop := ∃ f fd, FunT K x st f fd ∧ mg x = some (.ref f)
/-- the same, with its code object -/
def DefAtC (K : PySem.W.Frag) (mg : Str → Option Value) (x : Str) (st : Stmt) (c : Addr) : Prop := ∃ f fd, (FunT K x st f fd ∧ fd.code = .ref c) ∧ mg x = some (.ref f)
section
variable {P : Program} {w : World} {K : PySem.W.Frag} {mg : Str → Option Value} {base : Heap} {aREG aOPS : Addr}
theorem mk {x : Str} {st : Stmt} {N ps : List Str} {k : Nat} {sp : Sp} (d : DefAt K mg x st) (S : FnScope N ps (defScope st))
    (hb : ∀ (kV doc pm : Value) (an : Option Addr) (cdv ct : Value) (us : List Value), us.length = ps.length → bindArgs (PySem.W.fnOf x x (defArgs st) (defBody st) (defScope st) .none kV doc pm an cdv ct) ⟨us, []⟩ = pure (ps.zip us))
    (len : ∀ vs H Q E, sp vs H Q E → vs.length = ps.length)
    (body : ∀ (f : Addr) (cdv : Value) (A : Around) (outer : List Env) (s : Shared) (H : Hp) (vs : List V) (Q : VK) (E : XK), Room k (A.deeper (envOfC x (defScope st) s.heap.objs.size f cdv)) → sp vs H Q E →
      ∃ t, PSs (cxOf CX0 P w K mg base N x (defScope st) f cdv A outer s H E).nox (defBody st) t ∧ t { nx := fun _ H' => Q .non H', rt := Q } (start N vs) H) : C8.Cal P w K mg base (k + 1) x sp [] := by
  obtain ⟨f, fd, F, hm⟩ := d
  refine ⟨f, fd, ps, [], F.ok S len (fun cdv A outer s H vs Q E hr hsp => ?_), hm, F.kp, F.bindsN hb, .nil⟩
  obtain ⟨t, h, q⟩ := body f cdv A outer s H vs Q E hr hsp
  exact ⟨t, h.nox, q⟩
theorem mkC {x : Str} {st : Stmt} {c : Addr} {N ps : List Str} {k : Nat} {sp : Sp} (d : DefAtC K mg x st c) (S : FnScope N ps (defScope st))
    (hb : ∀ (kV doc pm : Value) (an : Option Addr) (cdv ct : Value) (us : List Value), us.length = ps.length → bindArgs (PySem.W.fnOf x x (defArgs st) (defBody st) (defScope st) .none kV doc pm an cdv ct) ⟨us, []⟩ = pure (ps.zip us))
    (len : ∀ vs H Q E, sp vs H Q E → vs.length = ps.length)
    (body : ∀ (f : Addr) (A : Around) (outer : List Env) (s : Shared) (H : Hp) (vs : List V) (Q : VK) (E : XK), Room k (A.deeper (envOfC x (defScope st) s.heap.objs.size f (.ref c))) → sp vs H Q E →
      ∃ t, PSs (cxOf CX0 P w K mg base N x (defScope st) f (.ref c) A outer s H E).nox (defBody st) t ∧ t { nx := fun _ H' => Q .non H', rt := Q } (start N vs) H) : C8.Cal P w K mg base (k + 1) x sp [] := by
  obtain ⟨f, fd, ⟨F, hc⟩, hm⟩ := d
  refine ⟨f, fd, ps, [], ?_, hm, F.kp, F.bindsN hb, .nil⟩
  obtain ⟨oc, od, dV, kV, doc, pm, an, cdv, ct, osl, rfl, lk, hcd, _, _⟩ := F.ex
  cases (show cdv = .ref c from hc)
  exact fn_of lk hcd S len fun A outer s H vs Q E hr hsp => let ⟨t, h, q⟩ := body f A outer s H vs Q E hr hsp; ⟨t, h.nox, q⟩
theorem mkF {x : Str} {st : Stmt} {N ps : List Str} {k : Nat} {sp : Sp} {f : Addr} {fd : FuncData} (F : FunT K x st f fd) (S : FnScope N ps (defScope st))
    (len : ∀ vs H Q E, sp vs H Q E → vs.length = ps.length)
    (body : ∀ (f : Addr) (cdv : Value) (A : Around) (outer : List Env) (s : Shared) (H : Hp) (vs : List V) (Q : VK) (E : XK), Room k (A.deeper (envOfC x (defScope st) s.heap.objs.size f cdv)) → sp vs H Q E →
      ∃ t, PSs (cxOf CX0 P w K mg base N x (defScope st) f cdv A outer s H E).nox (defBody st) t ∧ t { nx := fun _ H' => Q .non H', rt := Q } (start N vs) H) : FnOk P w K mg base CX0 (k + 1) f fd ps sp :=
  F.ok S len fun cdv A outer s H vs Q E hr hsp => let ⟨t, h, q⟩ := body f cdv A outer s H vs Q E hr hsp; ⟨t, h.nox, q⟩
abbrev s__law_mixed : Stmt := top 22
abbrev nm__law_mixed : List Str := ["number", "turn", "many", "first", "second", "third"]
theorem sc__law_mixed : FnScope nm__law_mixed ["number", "turn", "many"] (defScope s__law_mixed) := ⟨rfl, rfl, rfl, by decide +kernel, rfl, by decide +kernel, by decide +kernel⟩
abbrev s__law_store : Stmt := top 23
abbrev nm__law_store : List Str := ["script", "salt", "seed", "cell"]
theorem sc__law_store : FnScope nm__law_store ["script", "salt"] (defScope s__law_store) := ⟨rfl, rfl, rfl, by decide +kernel, rfl, by decide +kernel, by decide +kernel⟩
abbrev s__law_take : Stmt := top 24
abbrev nm__law_take : List Str := ["store", "many", "cell", "digit"]
theorem sc__law_take : FnScope nm__law_take ["store", "many"] (defScope s__law_take) := ⟨rfl, rfl, rfl, by decide +kernel, rfl, by decide +kernel, by decide +kernel⟩
abbrev s__law_pick : Stmt := top 25
abbrev nm__law_pick : List Str := ["store", "row"]
theorem sc__law_pick : FnScope nm__law_pick ["store", "row"] (defScope s__law_pick) := ⟨rfl, rfl, rfl, by decide +kernel, rfl, by decide +kernel, by decide +kernel⟩
abbrev s__law_between : Stmt := top 26
abbrev nm__law_between : List Str := ["store", "low", "high", "many", "way"]
theorem sc__law_between : FnScope nm__law_between ["store", "low", "high"] (defScope s__law_between) := ⟨rfl, rfl, rfl, by decide +kernel, rfl, by decide +kernel, by decide +kernel⟩
abbrev s__law_size : Stmt := top 27
abbrev nm__law_size : List Str := ["store", "most", "way"]
theorem sc__law_size : FnScope nm__law_size ["store", "most"] (defScope s__law_size) := ⟨rfl, rfl, rfl, by decide +kernel, rfl, by decide +kernel, by decide +kernel⟩
abbrev s__law_word : Stmt := top 28
abbrev nm__law_word : List Str := ["store", "way"]
theorem sc__law_word : FnScope nm__law_word ["store"] (defScope s__law_word) := ⟨rfl, rfl, rfl, by decide +kernel, rfl, by decide +kernel, by decide +kernel⟩
abbrev s__law_alike : Stmt := top 31
abbrev nm__law_alike : List Str := ["one", "two", "k"]
theorem sc__law_alike : FnScope nm__law_alike ["one", "two"] (defScope s__law_alike) := ⟨rfl, rfl, rfl, by decide +kernel, rfl, by decide +kernel, by decide +kernel⟩
abbrev s_is_integer : Stmt := top 14
abbrev nm_is_integer : List Str := ["x"]
theorem sc_is_integer : FnScope nm_is_integer ["x"] (defScope s_is_integer) := ⟨rfl, rfl, rfl, by decide +kernel, rfl, by decide +kernel, by decide +kernel⟩
abbrev s_is_in_range : Stmt := top 15
abbrev nm_is_in_range : List Str := ["x", "least", "most"]
theorem sc_is_in_range : FnScope nm_is_in_range ["x", "least", "most"] (defScope s_is_in_range) := ⟨rfl, rfl, rfl, by decide +kernel, rfl, by decide +kernel, by decide +kernel⟩
abbrev s_is_word : Stmt := top 16
abbrev nm_is_word : List Str := ["x"]
theorem sc_is_word : FnScope nm_is_word ["x"] (defScope s_is_word) := ⟨rfl, rfl, rfl, by decide +kernel, rfl, by decide +kernel, by decide +kernel⟩
abbrev s_ask_range : Stmt := top 17
abbrev nm_ask_range : List Str := ["name", "number", "least", "most"]
theorem sc_ask_range : FnScope nm_ask_range ["name", "number", "least", "most"] (defScope s_ask_range) := ⟨rfl, rfl, rfl, by decide +kernel, rfl, by decide +kernel, by decide +kernel⟩
abbrev s_ask_word : Stmt := top 18
abbrev nm_ask_word : List Str := ["name", "word"]
theorem sc_ask_word : FnScope nm_ask_word ["name", "word"] (defScope s_ask_word) := ⟨rfl, rfl, rfl, by decide +kernel, rfl, by decide +kernel, by decide +kernel⟩
abbrev s__law_words : Stmt := top 29
abbrev nm__law_words : List Str := ["store", "count", "way", "k"]
theorem sc__law_words : FnScope nm__law_words ["store", "count"] (defScope s__law_words) := ⟨rfl, rfl, rfl, by decide +kernel, rfl, by decide +kernel, by decide +kernel⟩
abbrev s_Pipe____init__ : Stmt := inClass (top 20) 0
abbrev nm_Pipe____init__ : List Str := ["self", "room"]
theorem sc_Pipe____init__ : FnScope nm_Pipe____init__ ["self", "room"] (defScope s_Pipe____init__) := ⟨rfl, rfl, rfl, by decide +kernel, rfl, by decide +kernel, by decide +kernel⟩
abbrev s_Pipe__room : Stmt := inClass (top 20) 1
abbrev nm_Pipe__room : List Str := ["self"]
theorem sc_Pipe__room : FnScope nm_Pipe__room ["self"] (defScope s_Pipe__room) := ⟨rfl, rfl, rfl, by decide +kernel, rfl, by decide +kernel, by decide +kernel⟩
abbrev s_Pipe__size : Stmt := inClass (top 20) 2
abbrev nm_Pipe__size : List Str := ["self"]
theorem sc_Pipe__size : FnScope nm_Pipe__size ["self"] (defScope s_Pipe__size) := ⟨rfl, rfl, rfl, by decide +kernel, rfl, by decide +kernel, by decide +kernel⟩
abbrev s_Pipe__sent : Stmt := inClass (top 20) 3
abbrev nm_Pipe__sent : List Str := ["self"]
theorem sc_Pipe__sent : FnScope nm_Pipe__sent ["self"] (defScope s_Pipe__sent) := ⟨rfl, rfl, rfl, by decide +kernel, rfl, by decide +kernel, by decide +kernel⟩
abbrev s_Pipe__received : Stmt := inClass (top 20) 4
abbrev nm_Pipe__received : List Str := ["self"]
theorem sc_Pipe__received : FnScope nm_Pipe__received ["self"] (defScope s_Pipe__received) := ⟨rfl, rfl, rfl, by decide +kernel, rfl, by decide +kernel, by decide +kernel⟩
abbrev s_Pipe__send : Stmt := inClass (top 20) 5
abbrev nm_Pipe__send : List Str := ["self", "word"]
theorem sc_Pipe__send : FnScope nm_Pipe__send ["self", "word"] (defScope s_Pipe__send) := ⟨rfl, rfl, rfl, by decide +kernel, rfl, by decide +kernel, by decide +kernel⟩
abbrev s_Pipe__receive : Stmt := inClass (top 20) 6
abbrev nm_Pipe__receive : List Str := ["self"]
theorem sc_Pipe__receive : FnScope nm_Pipe__receive ["self"] (defScope s_Pipe__receive) := ⟨rfl, rfl, rfl, by decide +kernel, rfl, by decide +kernel, by decide +kernel⟩
abbrev s_Pipe____iter__ : Stmt := inClass (top 20) 8
abbrev nm_Pipe____iter__ : List Str := ["self"]
theorem sc_Pipe____iter__ : FnScope nm_Pipe____iter__ ["self"] (defScope s_Pipe____iter__) := ⟨rfl, rfl, rfl, by decide +kernel, rfl, by decide +kernel, by decide +kernel⟩
abbrev s__law_wrong_integer : Stmt := top 30
abbrev nm__law_wrong_integer : List Str := ["store", "low", "high", "near", "others"]
theorem sc__law_wrong_integer : FnScope nm__law_wrong_integer ["store", "low", "high"] (defScope s__law_wrong_integer) := ⟨rfl, rfl, rfl, by decide +kernel, rfl, by decide +kernel, by decide +kernel⟩
abbrev s__law_is_integer : Stmt := top 32
abbrev nm__law_is_integer : List Str := ["value", "low", "high"]
theorem sc__law_is_integer : FnScope nm__law_is_integer ["value", "low", "high"] (defScope s__law_is_integer) := ⟨rfl, rfl, rfl, by decide +kernel, rfl, by decide +kernel, by decide +kernel⟩
abbrev s__law_drawn_call : Stmt := top 35
abbrev nm__law_drawn_call : List Str := ["store", "way"]
theorem sc__law_drawn_call : FnScope nm__law_drawn_call ["store"] (defScope s__law_drawn_call) := ⟨rfl, rfl, rfl, by decide +kernel, rfl, by decide +kernel, by decide +kernel⟩
abbrev s__law_due : Stmt := top 36
abbrev nm__law_due : List Str := ["call", "room", "sent", "out"]
theorem sc__law_due : FnScope nm__law_due ["call", "room", "sent", "out"] (defScope s__law_due) := ⟨rfl, rfl, rfl, by decide +kernel, rfl, by decide +kernel, by decide +kernel⟩
abbrev s_BadArgument____init__ : Stmt := inClass (top 4) 0
abbrev nm_BadArgument____init__ : List Str := ["self", "name"]
theorem sc_BadArgument____init__ : FnScope nm_BadArgument____init__ ["self", "name"] (defScope s_BadArgument____init__) := ⟨rfl, rfl, rfl, by decide +kernel, rfl, by decide +kernel, by decide +kernel⟩
abbrev s__law_refusal : Stmt := top 33
abbrev nm__law_refusal : List Str := ["e", "rows"]
theorem sc__law_refusal : FnScope nm__law_refusal ["e"] (defScope s__law_refusal) := ⟨rfl, rfl, rfl, by decide +kernel, rfl, by decide +kernel, by decide +kernel⟩
abbrev s__law_called : Stmt := top 34
abbrev nm__law_called : List Str := ["pipe", "call", "e"]
theorem sc__law_called : FnScope nm__law_called ["pipe", "call"] (defScope s__law_called) := ⟨rfl, rfl, rfl, by decide +kernel, rfl, by decide +kernel, by decide +kernel⟩
abbrev s__law_shown : Stmt := top 37
abbrev nm__law_shown : List Str := ["pipe", "room", "sent", "out", "k", "seen", "word"]
theorem sc__law_shown : FnScope nm__law_shown ["pipe", "room", "sent", "out"] (defScope s__law_shown) := ⟨rfl, rfl, rfl, by decide +kernel, rfl, by decide +kernel, by decide +kernel⟩
abbrev s__law_paired : Stmt := top 38
abbrev nm__law_paired : List Str := ["pipe", "inside", "rounds", "due", "told", "word", "x"]
theorem sc__law_paired : FnScope nm__law_paired ["pipe", "inside"] (defScope s__law_paired) := ⟨rfl, rfl, rfl, by decide +kernel, rfl, by decide +kernel, by decide +kernel⟩
abbrev s__law_step : Stmt := top 39
abbrev nm__law_step : List Str := ["pipe", "room", "sent", "out", "call", "due"]
theorem sc__law_step : FnScope nm__law_step ["pipe", "room", "sent", "out", "call"] (defScope s__law_step) := ⟨rfl, rfl, rfl, by decide +kernel, rfl, by decide +kernel, by decide +kernel⟩
abbrev s__law_refuses : Stmt := top 40
abbrev nm__law_refuses : List Str := ["wrong", "e"]
theorem sc__law_refuses : FnScope nm__law_refuses ["wrong"] (defScope s__law_refuses) := ⟨rfl, rfl, rfl, by decide +kernel, rfl, by decide +kernel, by decide +kernel⟩
abbrev s_law : Stmt := top 41
abbrev nm_law : List Str := ["script", "store", "room", "pipe", "twin", "first", "second", "word", "k", "call"]
theorem sc_law : FnScope nm_law ["script"] (defScope s_law) := ⟨rfl, rfl, rfl, by decide +kernel, rfl, by decide +kernel, by decide +kernel⟩
end
end K45
namespace K45
open PySem PySem.Spec PyProof.Rows L2 Wk
/-! ### the head -/
/-! ### what is looked at: the module's names and the interpreter's own statics -/
def obsA (as : List Addr) (fa : List He.Fa) (fn : List He.DefD) (tf : List He.Defn) (ex : PySem.W.Frag → Bool) (g : Addr → Option Obj) : He.AlX := (He.obsT fa fn [] (He.frT g as), ex (He.frT g as) && He.tabsB g tf (He.frT g as))
theorem saysA {as : List Addr} {fa : List He.Fa} {fn : List He.DefD} {tf : List He.Defn} {ex : PySem.W.Frag → Bool} {w : World} {h : Heap} (e : obsA as fa fn tf ex h.get? = He.valX fn [] w) : He.SaysX fa fn [] tf ex w h (He.frT h.get? as) := by
  have e1 : He.obsT fa fn [] (He.frT h.get? as) = He.valT fn [] w := congrArg (fun z : He.AlX => z.1) e
  have e2 : (ex (He.frT h.get? as) && He.tabsB h.get? tf (He.frT h.get? as)) = true := congrArg (fun z : He.AlX => z.2) e
  obtain ⟨h1, h2⟩ := He.ba e2
  have tb : ∀ p ∈ tf, PySem.W.codeHdIn (He.frT h.get? as) (He.cT (He.frT h.get? as) p).1 (He.cT (He.frT h.get? as) p).2 = true ∧ ∃ o, h.get? (He.cT (He.frT h.get? as) p).2 = some o ∧ He.emptyTab o = true := fun p hp => by
    obtain ⟨z1, z2⟩ := He.ba (List.all_eq_true.mp h2 p hp)
    refine ⟨z1, ?_⟩
    split at z2
    · exact ⟨_, by assumption, z2⟩
    · cases z2
  exact ⟨e1, h1, fun p hp => (tb p hp).1, fun p hp => let ⟨_, _, q, z⟩ := tb p hp; He.frT_none q z, fun p hp => let ⟨_, _, q, z⟩ := tb p hp; q.trans (congrArg some (He.emptyTab_eq z))⟩
def tupAt (K : PySem.W.Frag) (a : Addr) (vs : List V) : Bool := match K.lookup a with
  | some ⟨.type c, _, .seq its _, _⟩ => decide (c = "tuple") && (decide (its.size ≤ sizeLine) && He.relAll vs its.toList)
  | _ => false
theorem tupAt_ok {K : PySem.W.Frag} {a : Addr} {vs : List V} (h : tupAt K a vs = true) (H : Hp) : SqT K H a vs := by
  unfold tupAt at h
  split at h
  · rename_i c d its n sl q
    obtain ⟨h1, h2⟩ := He.ba h
    obtain ⟨h3, h4⟩ := He.ba h2
    exact .inr ⟨_, its, n, q, congrArg Value.type (of_decide_eq_true h1), rfl, of_decide_eq_true h3, He.relAll_ok h4⟩
  · cases h
/-- an own class of errors over ValueError -/
def oexB (K : PySem.W.Frag) (C : Addr) : Bool := (match K.lookup C with
  | some ⟨.type t, _, .cls cd, sl⟩ => decide (t = "type") && ((match cd.mro with
    | .ref C' :: bm => decide (C' = C) && PySem.HandSPX.refsVE bm
    | _ => false) && (cd.hasDict && (!cd.hasDel && (match sl.toList with
    | [_, _, _, _, some (.builtin n), _] => decide (n = "ValueError.__new__")
    | _ => false))))
  | _ => false) && (He.eqO (PySem.W.findIn K (.ref C) "__setattr__") (some (some (.builtin "object.__setattr__"))) && (decide (PySem.W.subIn K (.ref C) (.type "BaseException") = some true) && (decide (PySem.W.typeIn K (.ref C) = some (.type "type")) && PySem.W.keepIn K (.ref C))))
theorem oexB_ok {K : PySem.W.Frag} {C : Addr} (h : oexB K C = true) : OexC K C := by
  obtain ⟨h1, h⟩ := He.ba h
  obtain ⟨h2, h⟩ := He.ba h
  obtain ⟨h3, h⟩ := He.ba h
  obtain ⟨h4, h5⟩ := He.ba h
  refine ⟨?_, He.eqO_ok h2, of_decide_eq_true h3, of_decide_eq_true h4, h5⟩
  split at h1
  · rename_i t dd cd sl lk
    obtain ⟨k1, h1⟩ := He.ba h1
    obtain ⟨k2, h1⟩ := He.ba h1
    obtain ⟨k3, h1⟩ := He.ba h1
    obtain ⟨k4, k5⟩ := He.ba h1
    obtain ⟨nm, bs, mro, ns, qn, hd, sn, sub, ab, col, del⟩ := cd
    dsimp only at k2 k3 k4
    obtain rfl : t = "type" := of_decide_eq_true k1
    obtain rfl : hd = true := k3
    obtain rfl : del = false := by cases del with
      | false => rfl
      | true => cases k4
    cases mro with
    | nil => cases k2
    | cons u bm =>
      cases u with
      | ref C' =>
        obtain ⟨k6, k7⟩ := He.ba k2
        obtain rfl : C' = C := of_decide_eq_true k6
        obtain ⟨l⟩ := sl
        match l, k5, lk with
        | [k0, k1, k2, k3, some (.builtin n), k5'], k5, lk =>
          obtain rfl : n = "ValueError.__new__" := of_decide_eq_true k5
          exact ⟨_, _, _, _, _, _, _, _, _, _, _, _, _, _, _, lk, k7⟩
      | _ => cases k2
  · cases h1
def excB (K : PySem.W.Frag) (D : Addr) : Bool := He.eqO (PySem.W.findIn K (.ref D) "__getattribute__") (some (some (.builtin "BaseException.__getattribute__"))) && (He.eqO (PySem.W.findIn K (.ref D) "__getattr__") (some none) && (decide (PySem.W.subIn K (.ref D) (.type "BaseException") = some true) && (PySem.W.hasDictIn K D &&
  (He.eqO (PySem.W.findIn K (.ref D) "__class__") (some (some (.builtin "object.__class__"))) && (He.eqO (PySem.W.specialIn K (.builtin "object.__class__") "__get__") (some (some (.builtin "getset_descriptor.__get__"))) && (decide (PySem.W.takesIn K (.builtin "object.__class__") = some true) && decide (PySem.W.mroIn K D (.type "object") = some true)))))))
theorem excB_ok {K : PySem.W.Frag} {D : Addr} (h : excB K D = true) : ExcC K D := by
  obtain ⟨h1, h⟩ := He.ba h
  obtain ⟨h2, h⟩ := He.ba h
  obtain ⟨h3, h⟩ := He.ba h
  obtain ⟨h4, h⟩ := He.ba h
  obtain ⟨h5, h⟩ := He.ba h
  obtain ⟨h6, h⟩ := He.ba h
  obtain ⟨h7, h8⟩ := He.ba h
  exact ⟨He.eqO_ok h1, He.eqO_ok h2, of_decide_eq_true h3, h4, He.eqO_ok h5, He.eqO_ok h6, of_decide_eq_true h7, of_decide_eq_true h8⟩
def wrB (K : PySem.W.Frag) (W : Addr) : Bool := PySem.W.readsIn K W (.type "type") && (match PySem.W.findCls K (.ref W) (.type "type") "__init__" with
  | some (.val v) => decide (v = .builtin "ValueError.__init__")
  | _ => false)
theorem wrB_ok {K : PySem.W.Frag} {W : Addr} (h : wrB K W = true) : ∃ mc, PySem.W.readsIn K W mc = true ∧ PySem.W.findCls K (.ref W) mc "__init__" = some (.val (.builtin "ValueError.__init__")) := by
  obtain ⟨h1, h2⟩ := He.ba h
  refine ⟨_, h1, ?_⟩
  split at h2
  · rename_i v e
    rw [e, of_decide_eq_true h2]
  · cases h2
def errOthers : List Str := ["SourceError", "Unknown", "Taken", "NotAllowed", "WrongState", "RingOfWaits", "Full", "Stopped"]
/-- BadArgument, WardError, the others -/
def errB (K : PySem.W.Frag) : Bool := let C := He.ga K "BadArgument"; let W := He.ga K "WardError"; let f := He.ma K C "__init__"
  He.eqO (PySem.W.nsIn K mainGlobals "BadArgument") (some (some (.ref C))) && (He.eqO (PySem.W.nsIn K mainGlobals "WardError") (some (some (.ref W))) && (He.eqO (PySem.W.nsIn K mainGlobals "ValueError") (some none) && (oexB K C && (L2.xfB K C && (excB K C && (He.eqO (PySem.W.findIn K (.ref C) "name") (some none) &&
    (He.eqO (PySem.W.findIn K (.ref C) "__init__") (some (some (.ref f))) && (decide (PySem.W.typeIn K (.ref f) = some (.type "function")) && (He.eqO (PySem.W.specialIn K (.ref W) "__getattribute__") (some (some (.builtin "type.__getattribute__"))) && (wrB K W && (decide (PySem.W.kitOne K (.ref C) (.ref W) = some true) &&
    (decide (PySem.W.exmOne K (.ref C) (.ref W) = some true) && (decide (PySem.W.kitOne K (.ref C) (.type "ValueError") = some true) && (decide (PySem.W.kitOne K (.ref C) (.ref C) = some true) &&
    errOthers.all fun x => He.eqO (PySem.W.nsIn K mainGlobals x) (some (some (.ref (He.ga K x)))) && decide (PySem.W.kitOne K (.ref C) (.ref (He.ga K x)) = some false)))))))))))))))

def prB (K : PySem.W.Frag) (x m : Str) : Bool := He.eqO (PySem.W.findIn K (.ref (He.ga K x)) m) (some (some (.ref (He.ma K (He.ga K x) m)))) && (He.eqO (PySem.W.specialIn K (.ref (He.ma K (He.ga K x) m)) "__get__") (some (some (.builtin "property.__get__"))) && (decide (PySem.W.takesIn K (.ref (He.ma K (He.ga K x) m)) = some true) &&
  (match PySem.W.recIn K (He.ma K (He.ga K x) m) "property" with
    | some (.ref _ :: _) => true
    | _ => false)))
theorem prB_ok {K : PySem.W.Frag} {x m : Str} (h : prB K x m = true) : PropOf K (He.ga K x) m (He.ma K (He.ga K x) m) (He5.wf K (He.ga K x) "property" m) := by
  obtain ⟨h1, h⟩ := He.ba h
  obtain ⟨h2, h⟩ := He.ba h
  obtain ⟨h3, h4⟩ := He.ba h
  refine ⟨He.eqO_ok h1, He.eqO_ok h2, of_decide_eq_true h3, ?_⟩
  unfold He5.wf
  split at h4
  · rename_i g r q
    rw [q]
    exact ⟨r, rfl⟩
  · cases h4
def ex (K : PySem.W.Frag) : Bool := (prB K "Pipe" "room" && (prB K "Pipe" "size" && (prB K "Pipe" "sent" && (prB K "Pipe" "received" && (He.eqO (PySem.W.findIn K (.ref (He.ga K "Pipe")) "__len__") (some none) && (He.eqO (PySem.W.findIn K (.ref (He.ga K "Pipe")) "__length_hint__") (some none) && errB K))))))
def d_is_integer : He.DefD := ⟨("is_integer", none), "is_integer", "is_integer", defArgs s_is_integer, defBody s_is_integer, defScope s_is_integer, [], []⟩
def d_is_in_range : He.DefD := ⟨("is_in_range", none), "is_in_range", "is_in_range", defArgs s_is_in_range, defBody s_is_in_range, defScope s_is_in_range, [], []⟩
def d_is_word : He.DefD := ⟨("is_word", none), "is_word", "is_word", defArgs s_is_word, defBody s_is_word, defScope s_is_word, [], []⟩
def d_ask_range : He.DefD := ⟨("ask_range", none), "ask_range", "ask_range", defArgs s_ask_range, defBody s_ask_range, defScope s_ask_range, [], []⟩
def d_ask_word : He.DefD := ⟨("ask_word", none), "ask_word", "ask_word", defArgs s_ask_word, defBody s_ask_word, defScope s_ask_word, [], []⟩
def d__law_mixed : He.DefD := ⟨("_law_mixed", none), "_law_mixed", "_law_mixed", defArgs s__law_mixed, defBody s__law_mixed, defScope s__law_mixed, [], []⟩
def d__law_store : He.DefD := ⟨("_law_store", none), "_law_store", "_law_store", defArgs s__law_store, defBody s__law_store, defScope s__law_store, [], []⟩
def d__law_take : He.DefD := ⟨("_law_take", none), "_law_take", "_law_take", defArgs s__law_take, defBody s__law_take, defScope s__law_take, [], []⟩
def d__law_pick : He.DefD := ⟨("_law_pick", none), "_law_pick", "_law_pick", defArgs s__law_pick, defBody s__law_pick, defScope s__law_pick, [], []⟩
def d__law_between : He.DefD := ⟨("_law_between", none), "_law_between", "_law_between", defArgs s__law_between, defBody s__law_between, defScope s__law_between, [], []⟩
def d__law_size : He.DefD := ⟨("_law_size", none), "_law_size", "_law_size", defArgs s__law_size, defBody s__law_size, defScope s__law_size, [], []⟩
def d__law_word : He.DefD := ⟨("_law_word", none), "_law_word", "_law_word", defArgs s__law_word, defBody s__law_word, defScope s__law_word, [], []⟩
def d__law_words : He.DefD := ⟨("_law_words", none), "_law_words", "_law_words", defArgs s__law_words, defBody s__law_words, defScope s__law_words, [], []⟩
def d__law_wrong_integer : He.DefD := ⟨("_law_wrong_integer", none), "_law_wrong_integer", "_law_wrong_integer", defArgs s__law_wrong_integer, defBody s__law_wrong_integer, defScope s__law_wrong_integer, [], []⟩
def d__law_alike : He.DefD := ⟨("_law_alike", none), "_law_alike", "_law_alike", defArgs s__law_alike, defBody s__law_alike, defScope s__law_alike, [], []⟩
def d__law_is_integer : He.DefD := ⟨("_law_is_integer", none), "_law_is_integer", "_law_is_integer", defArgs s__law_is_integer, defBody s__law_is_integer, defScope s__law_is_integer, [], []⟩
def d__law_refusal : He.DefD := ⟨("_law_refusal", none), "_law_refusal", "_law_refusal", defArgs s__law_refusal, defBody s__law_refusal, defScope s__law_refusal, [], []⟩
def d__law_called : He.DefD := ⟨("_law_called", none), "_law_called", "_law_called", defArgs s__law_called, defBody s__law_called, defScope s__law_called, [], []⟩
def d__law_drawn_call : He.DefD := ⟨("_law_drawn_call", none), "_law_drawn_call", "_law_drawn_call", defArgs s__law_drawn_call, defBody s__law_drawn_call, defScope s__law_drawn_call, [], []⟩
def d__law_due : He.DefD := ⟨("_law_due", none), "_law_due", "_law_due", defArgs s__law_due, defBody s__law_due, defScope s__law_due, [], []⟩
def d__law_shown : He.DefD := ⟨("_law_shown", none), "_law_shown", "_law_shown", defArgs s__law_shown, defBody s__law_shown, defScope s__law_shown, [], []⟩
def d__law_paired : He.DefD := ⟨("_law_paired", none), "_law_paired", "_law_paired", defArgs s__law_paired, defBody s__law_paired, defScope s__law_paired, [], []⟩
def d__law_step : He.DefD := ⟨("_law_step", none), "_law_step", "_law_step", defArgs s__law_step, defBody s__law_step, defScope s__law_step, [], []⟩
def d__law_refuses : He.DefD := ⟨("_law_refuses", none), "_law_refuses", "_law_refuses", defArgs s__law_refuses, defBody s__law_refuses, defScope s__law_refuses, [], []⟩
def d_law : He.DefD := ⟨("law", none), "law", "law", defArgs s_law, defBody s_law, defScope s_law, [], []⟩
def d_M_send : He.DefD := ⟨("Pipe", some "send"), "send", "Pipe.send", defArgs s_Pipe__send, defBody s_Pipe__send, defScope s_Pipe__send, [], []⟩
def d_M_receive : He.DefD := ⟨("Pipe", some "receive"), "receive", "Pipe.receive", defArgs s_Pipe__receive, defBody s_Pipe__receive, defScope s_Pipe__receive, [], []⟩
def d_M___iter__ : He.DefD := ⟨("Pipe", some "__iter__"), "__iter__", "Pipe.__iter__", defArgs s_Pipe____iter__, defBody s_Pipe____iter__, defScope s_Pipe____iter__, [], []⟩
def d_M___init__ : He.DefD := ⟨("Pipe", some "__init__"), "__init__", "Pipe.__init__", defArgs s_Pipe____init__, defBody s_Pipe____init__, defScope s_Pipe____init__, [.int 4], []⟩
def d_B_init : He.DefD := ⟨("BadArgument", some "__init__"), "__init__", "BadArgument.__init__", defArgs s_BadArgument____init__, defBody s_BadArgument____init__, defScope s_BadArgument____init__, [], []⟩
def fn0 : List He.DefD := [d_is_integer, d_is_in_range, d_is_word, d_ask_range, d_ask_word, d__law_mixed, d__law_store, d__law_take, d__law_pick, d__law_between, d__law_size, d__law_word]
def fn1 : List He.DefD := [d__law_words, d__law_wrong_integer, d__law_alike, d__law_is_integer, d__law_refusal, d__law_called, d__law_drawn_call, d__law_due, d__law_shown, d__law_paired, d__law_step, d__law_refuses]
def fn2 : List He.DefD := [d_law, d_M_send, d_M_receive, d_M___iter__, d_M___init__, d_B_init]
def fn : List He.DefD := fn0 ++ (fn1 ++ (fn2))
def fa0 : List He.Fa := [.glo "is_integer", .glo "is_in_range", .glo "is_word", .glo "ask_range", .glo "ask_word", .glo "_law_mixed", .glo "_law_store", .glo "_law_take", .glo "_law_pick", .glo "_law_between", .glo "_law_size", .glo "_law_word"]
def fa1 : List He.Fa := [.glo "_law_words", .glo "_law_wrong_integer", .glo "_law_alike", .glo "_law_is_integer", .glo "_law_refusal", .glo "_law_called", .glo "_law_drawn_call", .glo "_law_due", .glo "_law_shown", .glo "_law_paired", .glo "_law_step", .glo "_law_refuses"]
def fa2 : List He.Fa := [.glo "law", .int "WORDS" 65536, .glo "Pipe", .cls "Pipe", .noat "Pipe" "_room", .noat "Pipe" "_words", .noat "Pipe" "_taken", .mkr "Pipe", .meth "Pipe" "send", .meth "Pipe" "receive", .meth "Pipe" "__iter__", .free "int"]
def fa3 : List He.Fa := [.free "len", .free "range", .free "list", .free "abs", .free "min", .free "max", .free "isinstance", .free "bool", .free "str", .free "tuple", .free "dict", .free "sorted"]
def fa4 : List He.Fa := [.free "all", .free "any", .free "zip", .free "enumerate", .free "sum", .free "iter"]
def fa : List He.Fa := fa0 ++ (fa1 ++ (fa2 ++ (fa3 ++ (fa4))))
def tf : List He.Defn := []
def d_S_room : He5.DefA := ⟨fun K => He5.wf K (He.ga K "Pipe") "property" "room", "room", "Pipe.room", defArgs s_Pipe__room, defBody s_Pipe__room, defScope s_Pipe__room, [], []⟩
def d_S_size : He5.DefA := ⟨fun K => He5.wf K (He.ga K "Pipe") "property" "size", "size", "Pipe.size", defArgs s_Pipe__size, defBody s_Pipe__size, defScope s_Pipe__size, [], []⟩
def d_S_sent : He5.DefA := ⟨fun K => He5.wf K (He.ga K "Pipe") "property" "sent", "sent", "Pipe.sent", defArgs s_Pipe__sent, defBody s_Pipe__sent, defScope s_Pipe__sent, [], []⟩
def d_S_received : He5.DefA := ⟨fun K => He5.wf K (He.ga K "Pipe") "property" "received", "received", "Pipe.received", defArgs s_Pipe__received, defBody s_Pipe__received, defScope s_Pipe__received, [], []⟩
def axs : List He5.DefA := [d_S_room, d_S_size, d_S_sent, d_S_received]
def NN : Nat := 6
abbrev AlY : Type := He.AlX × He.AlD
def asY (g : Addr → Option Obj) : List Addr := He.asD g NN ++ [cStatics]
def obsY (g : Addr → Option Obj) : AlY := (obsA (asY g) fa fn tf ex g, He5.obsA [] axs (He.frT g (asY g)))
theorem saysY (w : World) (s : Shared) (e : obsY s.heap.get? = (He.valX fn [] w, He5.valA axs)) : ∃ K : PySem.W.Frag, K.In s.heap ∧ He.SaysX fa fn [] tf ex w s.heap K ∧ He5.SaysA [] axs K := by
  obtain ⟨e1, e2⟩ := Prod.mk.inj (show (obsA (asY s.heap.get?) fa fn tf ex s.heap.get?, He5.obsA [] axs (He.frT s.heap.get? (asY s.heap.get?))) = (He.valX fn [] w, He5.valA axs) from e)
  exact ⟨He.frT s.heap.get? (asY s.heap.get?), He.frT_in, saysA e1, e2⟩
def hookY : PySem.W.Hook where
  α := AlY
  obs := fun s => obsY s.heap.get?
  val := fun w => (He.valX fn [] w, He5.valA axs)
  says := fun w h => ∃ K : PySem.W.Frag, K.In h ∧ He.SaysX fa fn [] tf ex w h K ∧ He5.SaysA [] axs K
  of := fun _ s e => saysY _ s e
  keeps := fun _ _ _ ⟨K, hK, c, q⟩ k => ⟨K, PySem.W.Frag.In.keeps hK k, ⟨c.t, c.more, c.hd, c.out, fun p hp => k _ _ (c.empty p hp)⟩, q⟩
def ob (s : PySem.W.SharedT) : AlY := obsY (HandSHeadRun.getT s)
theorem ob_eq (s : PySem.W.SharedT) : ob s = hookY.obs s.abs := by
  show obsY (HandSHeadRun.getT s) = obsY s.abs.heap.get?
  rw [show HandSHeadRun.getT s = s.abs.heap.get? from funext (HandSHeadRun.getT_eq s)]
abbrev R : PySem.W.OpenRow := PySem.W.OpenLaw.row PySem.Challenge.rw_wardwork_k45_pipe_in_order
def loose0 : List Str := ["WardError", "SourceError", "BadArgument", "Unknown", "Taken", "NotAllowed", "WrongState", "RingOfWaits", "Full", "Stopped", "Pipe", "WORDS"]
def loose1 : List Str := ["_wall", "is_integer", "is_in_range", "is_word", "ask_range", "ask_word", "_law_mixed", "_law_store", "_law_take", "_law_pick", "_law_between", "_law_size"]
def loose2 : List Str := ["_law_word", "_law_words", "_law_wrong_integer", "_law_alike", "_law_is_integer", "_law_refusal", "_law_called", "_law_drawn_call", "_law_due", "_law_shown", "_law_paired", "_law_step"]
def loose3 : List Str := ["_law_refuses"]
def loose : List Str := loose0 ++ (loose1 ++ (loose2 ++ (loose3)))
end K45
namespace K45
open PySem PySem.Spec PyProof.Rows L2 Wk
theorem run (w : World) : HandSHeadRun.RunEq R (PySem.W.view R.prog [41]) hookY ob 20000 loose w := by
  intro os
  kernel_rfl
end K45
set_option Elab.async false
set_option linter.all false
set_option maxRecDepth 100000
set_option maxHeartbeats 4000000
namespace K45
open PySem PySem.Spec PyProof.Rows L2 Wk
local macro_rules | `(tactic| walk_at "u1") => `(tactic| fail "no more")
local macro_rules | `(tactic| walk_at "pos") => `(tactic| first | assumption | omega | decide | (simp only [Int.ofNat_eq_natCast] at *; omega))
local macro_rules | `(tactic| walk_at "sz") => `(tactic| first
  | (simp only [List.length_cons, List.length_nil]; decide)
  | exact Evl.sz_of (by omega)
  | exact Evl.sz_lt (by omega)
  | exact Evl.sz_of (by simp only [List.length_map, List.length_append, List.length_cons, List.length_nil, List.length_replicate]; omega)
  | exact Evl.sz_lt (by simp only [List.length_map, List.length_append, List.length_cons, List.length_nil, List.length_replicate]; omega))
local macro_rules | `(tactic| walk_at "cond") => `(tactic| first
  | exact Or.inr ⟨by decide, by decide⟩
  | (show (0 : Int) < _; first | decide | assumption | omega)
  | exact Or.inl ⟨by omega, by omega⟩
  | exact Or.inr ⟨by omega, by omega⟩
  | exact ⟨by decide, by decide, by decide⟩
  | exact log2_lt (by omega) (by omega)
  | exact ⟨by omega, by omega⟩)
local macro_rules | `(tactic| walk_at "ty") => `(tactic| first
  | exact ty_int | exact ty_bl | exact ty_str | exact ty_non
  | exact ty_L (by assumption) | exact ty_T (by assumption)
  | exact ty_L (SqL.of (by assumption)) | exact ty_T (SqT.of (by assumption)))
local macro_rules | `(tactic| walk_at "kit") => `(tactic| first
  | exact k_ii | exact k_ib | exact k_is | exact k_il | exact k_it
  | exact k_bb | exact k_bi | exact k_bs | exact k_bl | exact k_bt
  | exact k_ss | exact k_sb | exact k_si | exact k_sl | exact k_st
  | exact k_ll | exact k_lb | exact k_li | exact k_ls | exact k_lt
  | exact k_tt | exact k_tb | exact k_ti | exact k_ts | exact k_tl
  | exact k_nn | exact k_ni | exact k_ns | exact k_nl | exact k_nt)
local macro_rules | `(tactic| walk_at "s1") => `(tactic| first
  | with_reducible refine w_seq ?_
  | with_reducible refine w_set ?_
  | with_reducible refine w_op ?_
  | ((with_reducible refine' w_var ?h1 ?_); (case h1 => rfl))
  | with_reducible refine w_c ?_
  | with_reducible refine w_cb ?_
  | with_reducible refine w_cons ?_
  | with_reducible refine w_nil ?_
  | with_reducible refine w_I0 ?_
  | ((with_reducible refine' w_I ?c1 ?_); case c1 => walk_at "cond")
  | with_reducible refine w_ret ?_
  | with_reducible refine w_next ?_
  | with_reducible refine w_ifS ?_
  | with_reducible refine w_test ?_
  | with_reducible refine w_tB ?_
  | with_reducible refine w_k ?_
  | with_reducible refine w_eqI ?_
  | with_reducible refine w_neI ?_
  | with_reducible refine w_eqS ?_
  | with_reducible refine w_neS ?_
  | with_reducible refine w_and ?_
  | with_reducible refine w_or ?_
  | with_reducible refine w_not ?_
  | with_reducible refine w_andV ?_
  | with_reducible refine w_orV ?_
  | with_reducible refine w_notV ?_
  | with_reducible refine w_ifE ?_
  | with_reducible refine w_true ?_
  | with_reducible refine w_false ?_
  | with_reducible refine w_ntrue ?_
  | with_reducible refine w_nfalse ?_
  | with_reducible refine w_call ?_
  | with_reducible refine c_int ?_
  | with_reducible refine c_abs ?_
  | with_reducible refine c_max ?_
  | with_reducible refine c_min ?_
  | with_reducible refine w_drop ?_
  | with_reducible refine w_sfld ?_
  | with_reducible refine w_meth ?_
  | with_reducible refine w_make ?_
  | with_reducible refine w_prop ?_
  | with_reducible refine w_callK ?_
  | with_reducible refine w_callN ?_
  | with_reducible refine w_star ?_
  | with_reducible refine w_gcons ?_
  | with_reducible refine w_gname ?_
  | with_reducible refine w_gnil ?_
  | with_reducible refine w_retN ?_
  | with_reducible refine w_tup ?_
  | with_reducible refine w_lst ?_
  | with_reducible refine w_fld ?_
  | with_reducible refine w_bm ?_
  | with_reducible refine w_bm0 ?_
  | with_reducible refine w_forL ?_
  | with_reducible refine w_forT ?_
  | with_reducible refine w_forS ?_
  | with_reducible refine w_forR ?_
  | with_reducible refine w_lcR ?_
  | with_reducible refine w_lcL ?_
  | with_reducible refine w_lcT ?_
  | with_reducible refine w_isN ?_
  | with_reducible refine w_notN ?_
  | with_reducible refine w_asg ?_
  | with_reducible refine w_gsub ?_
  | ((with_reducible refine' w_aug ?h1 ?_); (case h1 => rfl))
  | with_reducible refine w_augS ?_
  | with_reducible refine w_ipI ?_
  | with_reducible refine w_un ?_
  | with_reducible refine w_U ?_
  | ((with_reducible refine' w_iteF ?f1 ?_); case f1 => (first | (intro h; cases h; done) | decide))
  | ((with_reducible refine' w_iteT ?f1 ?_); case f1 => rfl)
  | ((with_reducible refine' w_iteNF ?f1 ?_); case f1 => rfl)
  | ((with_reducible refine' w_iteNT ?f1 ?_); case f1 => (first | (intro h; cases h; done) | decide))
  | ((with_reducible refine' c_isi ?t1 ?k1 ?_); (case t1 => walk_at "ty"); (case k1 => walk_at "kit"))
  | ((with_reducible refine' w_eq ?e1 ?_); case e1 => rfl)
  | ((with_reducible refine' w_ne ?e1 ?_); case e1 => rfl)
  | walk_at "u1")
local macro_rules | `(tactic| walk_at "s") => `(tactic| repeat walk_at "s1")
local macro_rules | `(tactic| walk_at "mem") => `(tactic| first | with_reducible exact List.mem_cons_self .. | ((with_reducible refine' List.mem_cons_of_mem _ ?q); (case q => walk_at "mem")) | assumption | ((with_reducible refine' List.mem_append_right _ ?q); (case q => walk_at "mem")) | (exact List.mem_append_left _ (by assumption)))
local macro_rules | `(tactic| walk_at "pk") => `(tactic| first | with_reducible exact Pk.here | ((with_reducible refine' Pk.there ?q); (case q => walk_at "pk")) | ((with_reducible refine' Pk.app ?q); (case q => walk_at "pk")))
local macro_rules | `(tactic| walk_at "pkb") => `(tactic| first | with_reducible exact PkB.here | ((with_reducible refine' PkB.there ?q); (case q => walk_at "pkb")) | ((with_reducible refine' PkB.app ?q); (case q => walk_at "pkb")))
local macro_rules | `(tactic| walk_at "spl") => `(tactic| first | with_reducible exact Spl.nil | ((with_reducible refine' Spl.cons ?h ?t); (case h => walk_at "pk"); (case t => walk_at "spl")) | ((with_reducible refine' Spl.blk ?h ?t); (case h => walk_at "pkb"); (case t => walk_at "spl")))
local macro_rules | `(tactic| walk_at "sbx") => `(tactic| first | with_reducible exact Sb.refl | with_reducible exact Sb.nil | with_reducible exact Sb.left | ((with_reducible refine' Sb.cons ?h ?t); (case h => walk_at "pk"); (case t => walk_at "sbx")) | ((with_reducible refine' Sb.blk ?h ?t); (case h => walk_at "pkb"); (case t => walk_at "sbx")) | ((with_reducible refine' Sb.drop ?q); (case q => walk_at "sbx")) | ((with_reducible refine' Sb.right ?q); (case q => walk_at "sbx")))
local macro_rules | `(tactic| walk_at "hd") => `(tactic| first | assumption | exact Hd.sb (by assumption) (by walk_at "sbx"))
local macro_rules | `(tactic| walk_at "sq") => `(tactic| first
  | assumption
  | exact Hd.sqL (by assumption) (by walk_at "mem")
  | exact Hd.sqT (by assumption) (by walk_at "mem")
  | exact Hd.sqF (by assumption) (by walk_at "mem")
  | (refine .inl ?_; walk_at "sq")
  | (refine .inr ?_; walk_at "sq"))
local macro_rules | `(tactic| walk_at "at") => `(tactic| first | rfl | assumption | exact atI_nat (by assumption))
local macro_rules | `(tactic| walk_at "dn1") => `(tactic| first
  | exact Dn.int | exact Dn.str | exact Dn.non | exact Dn.bl | assumption
  | ((refine' Dn.tp ?a1 ?m1 ?l1 ?p1); (case a1 => assumption); (case m1 => walk_at "mem"); (case l1 => (simp only [List.length_cons, List.length_nil]; omega)); (case p1 => walk_at "dns"))
  | ((refine' Dn.lt ?a1 ?m1 ?l1 ?p1); (case a1 => assumption); (case m1 => walk_at "mem"); (case l1 => (simp only [List.length_cons, List.length_nil]; omega)); (case p1 => walk_at "dns")))
local macro_rules | `(tactic| walk_at "dns") => `(tactic| first | exact Paired.nil | exact Dn.ints | ((refine' Paired.cons ?a1 ?b1); (case a1 => walk_at "dn1"); (case b1 => walk_at "dns")))
local macro_rules | `(tactic| walk_at "g1") => `(tactic| first
  | ((with_reducible refine' g_ixI ?h1 ?h2 ?h3 ?_); (case h1 => assumption); (case h2 => walk_at "mem"); (case h3 => omega); intro z hz)
  | ((with_reducible refine' g_ixIT ?h1 ?h2 ?h3 ?_); (case h1 => assumption); (case h2 => walk_at "mem"); (case h3 => omega); intro z hz)
  | ((with_reducible refine' g_setI ?h1 ?h2 ?h3 ?_); (case h1 => assumption); (case h2 => walk_at "pk"); (case h3 => omega); intro H2 hh2)
  | ((with_reducible refine' w_ixL ?h1 ?h2 ?_); (case h1 => walk_at "sq"); (case h2 => walk_at "at"))
  | ((with_reducible refine' w_ixT ?h1 ?h2 ?_); (case h1 => walk_at "sq"); (case h2 => walk_at "at"))
  | ((with_reducible refine' w_ixAny ?h1 ?h2 ?_); (case h1 => walk_at "sq"); (case h2 => walk_at "at"))
  | ((with_reducible refine' c_lenA ?h1 ?_); (case h1 => walk_at "sq"))
  | ((with_reducible refine' c_isi ?t1 ?k1 ?_); (case t1 => first | exact ty_T (by walk_at "sq") | exact ty_L (by walk_at "sq")); (case k1 => walk_at "kit"))
  | ((with_reducible refine' g_lst ?h1 ?h2 ?_); (case h1 => assumption); (case h2 => walk_at "sz"); intro p H2 hh2)
  | ((with_reducible refine' g_tup ?h1 ?h2 ?_); (case h1 => assumption); (case h2 => walk_at "sz"); intro p H2 hh2)
  | ((with_reducible refine' g_dict ?h1 ?_); (case h1 => assumption); intro p H2 hh2)
  | ((with_reducible refine' g_listL ?h1 ?h2 ?_); (case h1 => assumption); (case h2 => walk_at "sq"); intro p H2 hh2)
  | ((with_reducible refine' g_listT ?h1 ?h2 ?_); (case h1 => assumption); (case h2 => walk_at "sq"); intro p H2 hh2)
  | ((with_reducible refine' g_tupL ?h1 ?h2 ?_); (case h1 => assumption); (case h2 => walk_at "sq"); intro p H2 hh2)
  | ((with_reducible refine' g_set ?h1 ?h2 ?h3 ?_); (case h1 => assumption); (case h2 => walk_at "pk"); (case h3 => first | rfl | assumption | exact Evl.ixN_nat (by first | omega | (simp only [List.length_cons, List.length_nil]; omega))); intro H2 hh2)
  | ((with_reducible refine' g_kbm ?h1 ?h2 ?_); (case h1 => assumption); (case h2 => walk_at "mem"))
  | ((with_reducible refine' g_kbm0 ?h1 ?h2 ?_); (case h1 => assumption); (case h2 => walk_at "mem"))
  | ((with_reducible refine' g_app ?h1 ?h2 ?h3 ?_); (case h1 => assumption); (case h2 => walk_at "pk"); (case h3 => walk_at "sz"); intro H2 hh2)
  | ((with_reducible refine' g_kapp ?h1 ?h2 ?h3 ?_); (case h1 => assumption); (case h2 => walk_at "pk"); (case h3 => walk_at "sz"); intro H2 hh2)
  | ((with_reducible refine' g_fld ?h1 ?h2 ?h3 ?h4 ?h5 ?_); (case h1 => assumption); (case h2 => walk_at "mem"); (case h3 => assumption); (case h4 => assumption); (case h5 => rfl))
  | ((with_reducible refine' g_sfld ?h1 ?h2 ?h3 ?h4 ?h5 ?_); (case h1 => assumption); (case h2 => walk_at "pk"); (case h3 => assumption); (case h4 => assumption); (case h5 => decide); intro H2 hh2)
  | ((with_reducible refine' g_meth ?h1 ?h2 ?h3 ?_); (case h1 => assumption); (case h2 => walk_at "mem"); (case h3 => rfl))
  | ((with_reducible refine' g_prop ?h1 ?h2 ?_); (case h1 => assumption); (case h2 => walk_at "mem"))
  | ((with_reducible refine' g_make ?h1 ?_); (case h1 => assumption); intro x H2 hh2)
  | ((with_reducible refine' g_cat ?h1 ?h2 ?h3 ?h4 ?_); (case h1 => assumption); (case h2 => walk_at "mem"); (case h3 => walk_at "mem"); (case h4 => walk_at "sz"); intro p H2 hh2)
  | ((with_reducible refine' g_inT ?h1 ?h2 ?h3 ?h4 ?h5 ?_); (case h1 => assumption); (case h2 => walk_at "mem"); (case h3 => rfl); (case h4 => rfl); (case h5 => rfl)))
local macro_rules | `(tactic| walk_at "gs") => `(tactic| repeat first | walk_at "s1" | walk_at "g1")
local macro_rules | `(tactic| walk_at "ite") => `(tactic| first
  | ((with_reducible refine' w_iteT ?h1 ?_); (case h1 => omega))
  | ((with_reducible refine' w_iteF ?h1 ?_); (case h1 => omega))
  | (with_reducible refine w_ite ?_ ?_ <;> intro hq)
  | ((with_reducible refine' w_iteNT ?h1 ?_); (case h1 => omega))
  | ((with_reducible refine' w_iteNF ?h1 ?_); (case h1 => omega))
  | (with_reducible refine w_iteN ?_ ?_ <;> intro hq))
local macro_rules | `(tactic| walk_at "go") => `(tactic| repeat' first | walk_at "s1" | walk_at "g1" | walk_at "ite")
section
variable {P : Program} {w : World} {K : PySem.W.Frag} {mg : Str → Option Value} {base : Heap} {aREG aOPS : Addr}
/-! ### the draws: what every law draws with -/
/-- the store of draws at st, the script's cells at c -/
def StoreAt (H : Hp) (st c : Addr) : Prop := ∃ (ns : List Int) (i b t z : Int), H st = some (.lst [.ref c, .int i, .int b, .int t, .int z]) ∧ H c = some (.lst (ns.map V.int)) ∧ 0 ≤ i ∧ 0 ≤ b ∧ 0 ≤ z ∧ z < 2147483647
theorem StoreAt.ne {H : Hp} {st c : Addr} (S : StoreAt H st c) : c ≠ st := by
  obtain ⟨ns, i, b, t, z, h1, h2, _⟩ := S
  refine ne_of h2 h1 fun e => ?_
  cases ns with
  | nil => cases e
  | cons n ns => cases e
theorem StoreAt.upt {H H' : Hp} {st c : Addr} {S : List Addr} (s : StoreAt H st c) (u : Upt S H H') (h1 : st ∉ S) (h2 : c ∉ S) : StoreAt H' st c := by
  obtain ⟨ns, i, b, t, z, e1, e2, r⟩ := s
  exact ⟨ns, i, b, t, z, u _ _ h1 e1, u _ _ h2 e2, r⟩
theorem StoreAt.new {H H' : Hp} {st c p : Addr} {o : HO} (s : StoreAt H st c) (n : New H H' p o) : StoreAt H' st c := s.upt n.keep (by simp) (by simp)
theorem StoreAt.off {H H' : Hp} {st c p : Addr} {o : HO} (s : StoreAt H st c) (n : New H H' p o) : p ≠ st ∧ p ≠ c := by
  obtain ⟨ns, i, b, t, z, e1, e2, r⟩ := s
  exact ⟨n.ne' e1, n.ne' e2⟩
theorem StoreAt.chg {H H' : Hp} {st c p : Addr} {o : HO} (s : StoreAt H st c) (n : Chg H H' p o) (h1 : p ≠ st) (h2 : p ≠ c) : StoreAt H' st c := s.upt n.keep (fun z => h1 (List.mem_singleton.mp z).symm) (fun z => h2 (List.mem_singleton.mp z).symm)
theorem store_chg {H H' : Hp} {st c : Addr} {ns : List Int} {i b t z : Int} (n : Chg H H' st (.lst [.ref c, .int i, .int b, .int t, .int z])) (e : H c = some (.lst (ns.map V.int))) (ne : c ≠ st) (h1 : 0 ≤ i) (h2 : 0 ≤ b) (h3 : 0 ≤ z) (h4 : z < 2147483647) : StoreAt H' st c :=
  ⟨ns, i, b, t, z, n.at_, n.keep.at1 ne e, h1, h2, h3, h4⟩
/-- a number that is drawn: how the store and the heap may stand behind it -/
def Drawn (st c : Addr) (H : Hp) (P : Int → Prop) (Q : VK) : Prop := ∀ (k : Int) (H' : Hp), P k → StoreAt H' st c → Upt [st] H H' → Q (.int k) H'
/-- number and turn give something from 0 to many - 1 -/
def sp_mixed : Sp := fun vs H Q _ => ∃ n t m : Int, vs = [.int n, .int t, .int m] ∧ 0 < m ∧ ∀ k : Int, 0 ≤ k → k < m → Q (.int k) H
theorem c_mixed (T : Txt K mg aREG aOPS) (d : DefAt K mg "_law_mixed" s__law_mixed) : C8.Cal P w K mg base 1 "_law_mixed" sp_mixed [] := by
  refine mk d sc__law_mixed (fun _ _ _ _ _ _ us hl => match us, hl with | [_, _, _], _ => rfl) (fun vs H Q E h => ?_) (fun f cdv A outer s H vs Q E hr h => ?_)
  · obtain ⟨n, t, m, rfl, _⟩ := h
    rfl
  · obtain ⟨n, t, m, rfl, hm, k⟩ := h
    refine ⟨_, (pss_cons (ps_set (i := 3) sc__law_mixed.nd rfl (Or.inl rfl) (pe_op op_mod (pe_callTy Wk.b_int (by rfl) T.b_int (by decide +kernel) (pa_cons (pe_op op_add (pe_op op_add (pe_op op_mul (pe_callTy Wk.b_int (by rfl) T.b_int (by decide +kernel) (pa_cons (pv 0) pa_nil)) pe_int) (pe_op op_mul (pe_callTy Wk.b_int (by rfl) T.b_int (by decide +kernel) (pa_cons (pv 1) pa_nil)) pe_int)) pe_int) pa_nil)) pe_int))
  (pss_cons (ps_set (i := 4) sc__law_mixed.nd rfl (Or.inl rfl) (pe_op op_mod (pe_callTy Wk.b_int (by rfl) T.b_int (by decide +kernel) (pa_cons (pe_op op_add (pe_op op_add (pe_op op_mul (pv 3) (pv 3)) (pe_op op_mul (pe_callTy Wk.b_int (by rfl) T.b_int (by decide +kernel) (pa_cons (pv 1) pa_nil)) pe_int)) pe_int) pa_nil)) pe_int))
  (pss_cons (ps_set (i := 5) sc__law_mixed.nd rfl (Or.inl rfl) (pe_op op_mod (pe_callTy Wk.b_int (by rfl) T.b_int (by decide +kernel) (pa_cons (pe_op op_add (pe_op op_mul (pv 4) (pv 4)) (pv 3)) pa_nil)) pe_int))
  (pss_cons (ps_if (pt_cmpR op_gt (pv 2) pe_int (nomark _))
    (pss_one (ps_ret (pe_op op_mod (pe_callTy Wk.b_int (by rfl) T.b_int (by decide +kernel) (pa_cons (pe_op op_add (pe_op op_mul (pv 4) pe_int) (pv 5)) pa_nil)) (pv 2))))
    pss_nil)
  (pss_one (ps_ret (pe_op op_mod (pv 5) (pv 2)))))))), ?_⟩
    walk_at "s"
    refine w_ite (fun h1 => ?_) (fun h1 => ?_)
    all_goals walk_at "s"
    all_goals exact k _ (Int.emod_nonneg _ (by omega)) (Int.emod_lt_of_pos _ hm)
theorem u_mixed {n t m : Int} {H : Hp} {Q : VK} {E : XK} (hm : 0 < m) (q : ∀ k : Int, 0 ≤ k → k < m → Q (.int k) H) : sp_mixed [.int n, .int t, .int m] H Q E := ⟨n, t, m, rfl, hm, q⟩
def sp_store (K : PySem.W.Frag) : Sp := fun vs H Q _ => ∃ (a : Addr) (ns : List Int) (salt : Int), vs = [.ref a, .int salt] ∧ SqL K H a (ns.map V.int) ∧ ns.length ≤ 63 ∧ 0 ≤ salt ∧ salt ≤ 200000 ∧
  ∀ st c H', H st = none → H c = none → StoreAt H' st c → Upt [] H H' → Q (.ref st) H'
theorem c_store (T : Txt K mg aREG aOPS) (d : DefAt K mg "_law_store" s__law_store) : C8.Cal P w K mg base 1 "_law_store" (sp_store K) [] := by
  refine mk d sc__law_store (fun _ _ _ _ _ _ us hl => match us, hl with | [_, _], _ => rfl) (fun vs H Q E h => ?_) (fun f cdv A outer s H vs Q E hr h => ?_)
  · obtain ⟨a, ns, z, rfl, _⟩ := h
    rfl
  · obtain ⟨a, ns, z, rfl, hS, hl, hz0, hz1, k⟩ := h
    refine ⟨_, (pss_cons (ps_set (i := 2) sc__law_store.nd rfl (Or.inl rfl) (pe_op op_add (pe_op op_mul (pv 1) pe_int) (pe_callB Wk.b_len (by rfl) T.b_len (by decide +kernel) (pa_cons (pv 0) pa_nil))))
  (pss_cons (ps_for PassesOwn.never rfl (pi_list (pv 0)) (pg_name (i := 3) sc__law_store.nd rfl (Or.inl rfl))
    (pss_one (ps_set (i := 2) sc__law_store.nd rfl (Or.inl rfl) (pe_op op_mod (pe_callTy Wk.b_int (by rfl) T.b_int (by decide +kernel) (pa_cons (pe_op op_add (pe_op op_add (pe_op op_mul (pv 2) pe_int) (pe_op op_mod (pe_callTy Wk.b_int (by rfl) T.b_int (by decide +kernel) (pa_cons (pv 3) pa_nil)) pe_int)) pe_int) pa_nil)) pe_int))))
  (pss_one (ps_ret (pe_lst (pa_cons (pe_callTy Wk.b_list (by rfl) T.b_list (by decide +kernel) (pa_cons (pv 0) pa_nil)) (pa_cons pe_int (pa_cons pe_int (pa_cons pe_int (pa_cons (pv 2) pa_nil)))))))))), ?_⟩
    walk_at "s"
    refine c_lenL hS ?_
    walk_at "s"
    refine l_list hS (fun i σ H2 => H2 = H ∧ ∃ (s : Int) (v : Option V), σ = [some (.ref a), some (.int z), some (.int s), v] ∧ 0 ≤ s ∧ s < 2147483647) ⟨rfl, _, _, rfl, ?_, ?_⟩ (fun i σ H2 _ ⟨e, _⟩ => by rw [e]; exact hS) ?_ ?_
    · rw [List.length_map]; omega
    · rw [List.length_map]; omega
    · rintro i y σ H2 hi ⟨rfl, s, v, rfl, h0, h1⟩
      obtain ⟨n, rfl⟩ := item_int hi
      walk_at "s"
      exact ⟨rfl, _, _, rfl, Int.emod_nonneg _ (by omega), Int.emod_lt_of_pos _ (by omega)⟩
    · rintro σ H2 ⟨rfl, s, v, rfl, h0, h1⟩
      walk_at "s"
      refine c_listL hS fun c H3 n3 => ?_
      walk_at "s"
      refine w_new (by walk_at "sz") fun st H4 n4 => ?_
      have e := n4.keep.at0 n3.at_
      exact k st c H4 (n3.keep.free (by simp) n4.no) n3.no ⟨ns, 0, 0, 0, s, n4.at_, e, by omega, by omega, h0, h1⟩ (n3.keep.trans n4.keep)
theorem u_store {a : Addr} {ns : List Int} {z : Int} {H : Hp} {Q : VK} {E : XK} (h : SqL K H a (ns.map V.int)) (hl : ns.length ≤ 63) (h0 : 0 ≤ z) (h1 : z ≤ 200000) (q : ∀ st c H', H st = none → H c = none → StoreAt H' st c → Upt [] H H' → Q (.ref st) H') : sp_store K [.ref a, .int z] H Q E :=
  ⟨a, ns, z, rfl, h, hl, h0, h1, q⟩
def sp_take : Sp := fun vs H Q _ => ∃ (st c : Addr) (m : Int), vs = [.ref st, .int m] ∧ StoreAt H st c ∧ m ≤ 4611686018427387904 ∧ Drawn st c H (fun k => 0 ≤ k ∧ (k < m ∨ k = 0)) Q
theorem c_take (T : Txt K mg aREG aOPS) (d : DefAt K mg "_law_take" s__law_take) (c__law_mixed : C8.Cal P w K mg base 1 "_law_mixed" sp_mixed []) : C8.Cal P w K mg base 2 "_law_take" sp_take [] := by
  refine mk d sc__law_take (fun _ _ _ _ _ _ us hl => match us, hl with | [_, _], _ => rfl) (fun vs H Q E h => ?_) (fun f cdv A outer s H vs Q E hr h => ?_)
  · obtain ⟨st, c, m, rfl, _⟩ := h
    rfl
  · obtain ⟨st, c, m, rfl, S, hm, k⟩ := h
    have ne := S.ne
    obtain ⟨ns, i, b, t, z, h1, h2, hi, hb, hz0, hz1⟩ := S
    refine ⟨_, (pss_cons (ps_augS (pv 0) pe_int Wk.get_list pe_int ip_add set_list)
  (pss_cons (ps_if (pt_cmpR op_lt (pv 1) pe_int (nomark _))
    (pss_one (ps_ret pe_int))
    pss_nil)
  (C8.pss_cut (ps_if (PW.pt (pw_and (pt_cmpR op_eq (pe_ix ix_list (pv 0) pe_int (fun _ _ => rfl)) pe_int (nomark _)) (pw_and1 (pt_cmpR op_lt (pe_ix ix_list (pv 0) pe_int (fun _ _ => rfl)) (pe_callB Wk.b_len (by rfl) T.b_len (by decide +kernel) (pa_cons (pe_ix ix_list (pv 0) pe_int (fun _ _ => rfl)) pa_nil)) (nomark _)))))
    (pss_cons (ps_set (i := 2) sc__law_take.nd rfl (Or.inl rfl) (pe_callTy Wk.b_int (by rfl) T.b_int (by decide +kernel) (pa_cons (pe_ix ix_list (pe_ix ix_list (pv 0) pe_int (fun _ _ => rfl)) (pe_ix ix_list (pv 0) pe_int (fun _ _ => rfl)) (fun _ _ => rfl)) pa_nil)))
      (pss_cons (ps_augS (pv 0) pe_int Wk.get_list pe_int ip_add set_list)
      (pss_cons (ps_if (pt_cmpR op_lt (pe_callB Wk.b_abs (by rfl) T.b_abs (by decide +kernel) (pa_cons (pv 2) pa_nil)) (pe_op op_pow pe_int pe_int) (nomark _))
        (pss_one (ps_ret (C8.pe_c c__law_mixed hr (by first | decide | omega) rfl (pa_cons (pv 2) (pa_cons (pe_ix ix_list (pv 0) pe_int (fun _ _ => rfl)) (pa_cons (pv 1) pa_nil))))))
        pss_nil)
      (pss_one (ps_asg (pe_callB Wk.b_abs (by rfl) T.b_abs (by decide +kernel) (pa_cons (pv 2) pa_nil)) (pg_sub (pv 0) pe_int set_list))))))
    pss_nil)
  (pss_cons (ps_if (pt_cmpR op_eq (pe_ix ix_list (pv 0) pe_int (fun _ _ => rfl)) pe_int (nomark _))
    (pss_one (ps_ret (C8.pe_c c__law_mixed hr (by first | decide | omega) rfl (pa_cons (pe_ix ix_list (pv 0) pe_int (fun _ _ => rfl)) (pa_cons (pe_ix ix_list (pv 0) pe_int (fun _ _ => rfl)) (pa_cons (pv 1) pa_nil))))))
    pss_nil)
  (pss_cons (ps_set (i := 3) sc__law_take.nd rfl (Or.inl rfl) (pe_op op_mod (pe_callTy Wk.b_int (by rfl) T.b_int (by decide +kernel) (pa_cons (pe_ix ix_list (pv 0) pe_int (fun _ _ => rfl)) pa_nil)) (pv 1)))
  (pss_cons (ps_asg (pe_op op_fdivW (pe_callTy Wk.b_int (by rfl) T.b_int (by decide +kernel) (pa_cons (pe_ix ix_list (pv 0) pe_int (fun _ _ => rfl)) pa_nil)) (pv 1)) (pg_sub (pv 0) pe_int set_list))
  (pss_one (ps_ret (pv 3))))))))), ?_⟩
    walk_at "s"
    refine w_ixL (SqL.of h1) rfl ?_
    walk_at "s"
    refine w_setI h1 rfl fun H2 g2 => ?_
    walk_at "s"
    have a2 : H2 st = some (.lst [.ref c, .int i, .int b, .int (t + 1), .int z]) := g2.at_
    have e2 : H2 c = some (.lst (ns.map V.int)) := g2.keep.at1 ne h2
    refine w_ite (fun q1 => ?_) (fun q1 => ?_)
    · walk_at "s"
      exact k 0 H2 ⟨by omega, .inr rfl⟩ (store_chg g2 h2 ne hi hb hz0 hz1) g2.keep
    · walk_at "s"
      refine w_cut (fun σ H3 => Upt [st] H H3 ∧ H3 c = some (.lst (ns.map V.int)) ∧ ∃ (i b : Int) (v : Option V), 0 ≤ i ∧ 0 ≤ b ∧ H3 st = some (.lst [.ref c, .int i, .int b, .int (t + 1), .int z]) ∧ σ = [some (.ref st), some (.int m), v, none]) ?_ ?_
      · walk_at "s"
        refine w_ixL (SqL.of a2) rfl ?_
        walk_at "s"
        refine w_ite (fun q2 => ?_) (fun q2 => ?_)
        · walk_at "s"
          refine w_ixL (SqL.of a2) rfl ?_
          walk_at "s"
          refine w_ixL (SqL.of a2) rfl ?_
          walk_at "s"
          refine c_lenL (SqL.of e2) ?_
          walk_at "s"
          rw [List.length_map]
          refine w_ite (fun q3 => ?_) (fun q3 => ?_)
          · obtain ⟨n, hn, hat⟩ := atI_ints hi q3
            walk_at "s"
            refine w_ixL (SqL.of a2) rfl ?_
            walk_at "s"
            refine w_ixL (SqL.of a2) rfl ?_
            walk_at "s"
            refine w_ixL (SqL.of e2) hat ?_
            walk_at "s"
            refine w_ixL (SqL.of a2) rfl ?_
            walk_at "s"
            refine w_setI a2 rfl fun H3 g3 => ?_
            walk_at "s"
            have a3 : H3 st = some (.lst [.ref c, .int (i + 1), .int b, .int (t + 1), .int z]) := g3.at_
            have e3 : H3 c = some (.lst (ns.map V.int)) := g3.keep.at1 ne e2
            refine w_ite (fun q4 => ?_) (fun q4 => ?_)
            · walk_at "s"
              refine w_ixL (SqL.of a3) rfl ?_
              walk_at "s"
              refine u_mixed (by omega) fun v hv0 hv1 => ?_
              exact k v H3 ⟨hv0, .inl hv1⟩ ⟨ns, _, _, _, _, a3, e3, by omega, hb, hz0, hz1⟩ (g2.keep.trans g3.keep)
            · walk_at "s"
              refine w_setI a3 rfl fun H4 g4 => ?_
              walk_at "s"
              have hb4 : 0 ≤ (if n < 0 then -n else n) := by split <;> omega
              exact ⟨(g2.keep.trans g3.keep).trans g4.keep, g4.keep.at1 ne e3, _, _, _, by omega, hb4, g4.at_, rfl⟩
          · walk_at "s"
            exact ⟨g2.keep, e2, _, _, _, hi, hb, a2, rfl⟩
        · walk_at "s"
          exact ⟨g2.keep, e2, _, _, _, hi, hb, a2, rfl⟩
      · rintro σ H3 ⟨u3, e3, i3, b3, v, hi3, hb3, a3, rfl⟩
        walk_at "s"
        refine w_ixL (SqL.of a3) rfl ?_
        walk_at "s"
        refine w_ite (fun q2 => ?_) (fun q2 => ?_)
        · walk_at "s"
          refine w_ixL (SqL.of a3) rfl ?_
          walk_at "s"
          refine w_ixL (SqL.of a3) rfl ?_
          walk_at "s"
          refine u_mixed (by omega) fun v hv0 hv1 => ?_
          exact k v H3 ⟨hv0, .inl hv1⟩ ⟨ns, _, _, _, _, a3, e3, hi3, hb3, hz0, hz1⟩ u3
        · walk_at "s"
          refine w_ixL (SqL.of a3) rfl ?_
          walk_at "s"
          refine w_ixL (SqL.of a3) rfl ?_
          walk_at "s"
          refine w_setI a3 rfl fun H4 g4 => ?_
          walk_at "s"
          exact k _ H4 ⟨Int.emod_nonneg _ (by omega), .inl (Int.emod_lt_of_pos _ (by omega))⟩ ⟨ns, _, _, _, _, g4.at_, g4.keep.at1 ne e3, hi3, Int.ediv_nonneg hb3 (by omega), hz0, hz1⟩ (u3.trans g4.keep)
theorem u_take {st c : Addr} {m : Int} {H : Hp} {Q : VK} {E : XK} (S : StoreAt H st c) (hm : m ≤ 4611686018427387904) (q : ∀ k H', 0 ≤ k ∧ (k < m ∨ k = 0) → StoreAt H' st c → Upt [st] H H' → Q (.int k) H') : sp_take [.ref st, .int m] H Q E :=
  ⟨st, c, m, rfl, S, hm, q⟩
end
end K45
set_option Elab.async false
set_option linter.all false
set_option maxRecDepth 100000
set_option maxHeartbeats 4000000
namespace K45
open PySem PySem.Spec PyProof.Rows L2 Wk
local macro_rules | `(tactic| walk_at "u1") => `(tactic| fail "no more")
local macro_rules | `(tactic| walk_at "pos") => `(tactic| first | assumption | omega | decide | (simp only [Int.ofNat_eq_natCast] at *; omega))
local macro_rules | `(tactic| walk_at "sz") => `(tactic| first
  | (simp only [List.length_cons, List.length_nil]; decide)
  | exact Evl.sz_of (by omega)
  | exact Evl.sz_lt (by omega)
  | exact Evl.sz_of (by simp only [List.length_map, List.length_append, List.length_cons, List.length_nil, List.length_replicate]; omega)
  | exact Evl.sz_lt (by simp only [List.length_map, List.length_append, List.length_cons, List.length_nil, List.length_replicate]; omega))
local macro_rules | `(tactic| walk_at "cond") => `(tactic| first
  | exact Or.inr ⟨by decide, by decide⟩
  | (show (0 : Int) < _; first | decide | assumption | omega)
  | exact Or.inl ⟨by omega, by omega⟩
  | exact Or.inr ⟨by omega, by omega⟩
  | exact ⟨by decide, by decide, by decide⟩
  | exact log2_lt (by omega) (by omega)
  | exact ⟨by omega, by omega⟩)
local macro_rules | `(tactic| walk_at "ty") => `(tactic| first
  | exact ty_int | exact ty_bl | exact ty_str | exact ty_non
  | exact ty_L (by assumption) | exact ty_T (by assumption)
  | exact ty_L (SqL.of (by assumption)) | exact ty_T (SqT.of (by assumption)))
local macro_rules | `(tactic| walk_at "kit") => `(tactic| first
  | exact k_ii | exact k_ib | exact k_is | exact k_il | exact k_it
  | exact k_bb | exact k_bi | exact k_bs | exact k_bl | exact k_bt
  | exact k_ss | exact k_sb | exact k_si | exact k_sl | exact k_st
  | exact k_ll | exact k_lb | exact k_li | exact k_ls | exact k_lt
  | exact k_tt | exact k_tb | exact k_ti | exact k_ts | exact k_tl
  | exact k_nn | exact k_ni | exact k_ns | exact k_nl | exact k_nt)
local macro_rules | `(tactic| walk_at "s1") => `(tactic| first
  | with_reducible refine w_seq ?_
  | with_reducible refine w_set ?_
  | with_reducible refine w_op ?_
  | ((with_reducible refine' w_var ?h1 ?_); (case h1 => rfl))
  | with_reducible refine w_c ?_
  | with_reducible refine w_cb ?_
  | with_reducible refine w_cons ?_
  | with_reducible refine w_nil ?_
  | with_reducible refine w_I0 ?_
  | ((with_reducible refine' w_I ?c1 ?_); case c1 => walk_at "cond")
  | with_reducible refine w_ret ?_
  | with_reducible refine w_next ?_
  | with_reducible refine w_ifS ?_
  | with_reducible refine w_test ?_
  | with_reducible refine w_tB ?_
  | with_reducible refine w_k ?_
  | with_reducible refine w_eqI ?_
  | with_reducible refine w_neI ?_
  | with_reducible refine w_eqS ?_
  | with_reducible refine w_neS ?_
  | with_reducible refine w_and ?_
  | with_reducible refine w_or ?_
  | with_reducible refine w_not ?_
  | with_reducible refine w_andV ?_
  | with_reducible refine w_orV ?_
  | with_reducible refine w_notV ?_
  | with_reducible refine w_ifE ?_
  | with_reducible refine w_true ?_
  | with_reducible refine w_false ?_
  | with_reducible refine w_ntrue ?_
  | with_reducible refine w_nfalse ?_
  | with_reducible refine w_call ?_
  | with_reducible refine c_int ?_
  | with_reducible refine c_abs ?_
  | with_reducible refine c_max ?_
  | with_reducible refine c_min ?_
  | with_reducible refine w_drop ?_
  | with_reducible refine w_sfld ?_
  | with_reducible refine w_meth ?_
  | with_reducible refine w_make ?_
  | with_reducible refine w_prop ?_
  | with_reducible refine w_callK ?_
  | with_reducible refine w_callN ?_
  | with_reducible refine w_star ?_
  | with_reducible refine w_gcons ?_
  | with_reducible refine w_gname ?_
  | with_reducible refine w_gnil ?_
  | with_reducible refine w_retN ?_
  | with_reducible refine w_tup ?_
  | with_reducible refine w_lst ?_
  | with_reducible refine w_fld ?_
  | with_reducible refine w_bm ?_
  | with_reducible refine w_bm0 ?_
  | with_reducible refine w_forL ?_
  | with_reducible refine w_forT ?_
  | with_reducible refine w_forS ?_
  | with_reducible refine w_forR ?_
  | with_reducible refine w_lcR ?_
  | with_reducible refine w_lcL ?_
  | with_reducible refine w_lcT ?_
  | with_reducible refine w_isN ?_
  | with_reducible refine w_notN ?_
  | with_reducible refine w_asg ?_
  | with_reducible refine w_gsub ?_
  | ((with_reducible refine' w_aug ?h1 ?_); (case h1 => rfl))
  | with_reducible refine w_augS ?_
  | with_reducible refine w_ipI ?_
  | with_reducible refine w_un ?_
  | with_reducible refine w_U ?_
  | ((with_reducible refine' w_iteF ?f1 ?_); case f1 => (first | (intro h; cases h; done) | decide))
  | ((with_reducible refine' w_iteT ?f1 ?_); case f1 => rfl)
  | ((with_reducible refine' w_iteNF ?f1 ?_); case f1 => rfl)
  | ((with_reducible refine' w_iteNT ?f1 ?_); case f1 => (first | (intro h; cases h; done) | decide))
  | ((with_reducible refine' c_isi ?t1 ?k1 ?_); (case t1 => walk_at "ty"); (case k1 => walk_at "kit"))
  | ((with_reducible refine' w_eq ?e1 ?_); case e1 => rfl)
  | ((with_reducible refine' w_ne ?e1 ?_); case e1 => rfl)
  | walk_at "u1")
local macro_rules | `(tactic| walk_at "s") => `(tactic| repeat walk_at "s1")
local macro_rules | `(tactic| walk_at "mem") => `(tactic| first | with_reducible exact List.mem_cons_self .. | ((with_reducible refine' List.mem_cons_of_mem _ ?q); (case q => walk_at "mem")) | assumption | ((with_reducible refine' List.mem_append_right _ ?q); (case q => walk_at "mem")) | (exact List.mem_append_left _ (by assumption)))
local macro_rules | `(tactic| walk_at "pk") => `(tactic| first | with_reducible exact Pk.here | ((with_reducible refine' Pk.there ?q); (case q => walk_at "pk")) | ((with_reducible refine' Pk.app ?q); (case q => walk_at "pk")))
local macro_rules | `(tactic| walk_at "pkb") => `(tactic| first | with_reducible exact PkB.here | ((with_reducible refine' PkB.there ?q); (case q => walk_at "pkb")) | ((with_reducible refine' PkB.app ?q); (case q => walk_at "pkb")))
local macro_rules | `(tactic| walk_at "spl") => `(tactic| first | with_reducible exact Spl.nil | ((with_reducible refine' Spl.cons ?h ?t); (case h => walk_at "pk"); (case t => walk_at "spl")) | ((with_reducible refine' Spl.blk ?h ?t); (case h => walk_at "pkb"); (case t => walk_at "spl")))
local macro_rules | `(tactic| walk_at "sbx") => `(tactic| first | with_reducible exact Sb.refl | with_reducible exact Sb.nil | with_reducible exact Sb.left | ((with_reducible refine' Sb.cons ?h ?t); (case h => walk_at "pk"); (case t => walk_at "sbx")) | ((with_reducible refine' Sb.blk ?h ?t); (case h => walk_at "pkb"); (case t => walk_at "sbx")) | ((with_reducible refine' Sb.drop ?q); (case q => walk_at "sbx")) | ((with_reducible refine' Sb.right ?q); (case q => walk_at "sbx")))
local macro_rules | `(tactic| walk_at "hd") => `(tactic| first | assumption | exact Hd.sb (by assumption) (by walk_at "sbx"))
local macro_rules | `(tactic| walk_at "sq") => `(tactic| first
  | assumption
  | exact Hd.sqL (by assumption) (by walk_at "mem")
  | exact Hd.sqT (by assumption) (by walk_at "mem")
  | exact Hd.sqF (by assumption) (by walk_at "mem")
  | (refine .inl ?_; walk_at "sq")
  | (refine .inr ?_; walk_at "sq"))
local macro_rules | `(tactic| walk_at "at") => `(tactic| first | rfl | assumption | exact atI_nat (by assumption))
local macro_rules | `(tactic| walk_at "dn1") => `(tactic| first
  | exact Dn.int | exact Dn.str | exact Dn.non | exact Dn.bl | assumption
  | ((refine' Dn.tp ?a1 ?m1 ?l1 ?p1); (case a1 => assumption); (case m1 => walk_at "mem"); (case l1 => (simp only [List.length_cons, List.length_nil]; omega)); (case p1 => walk_at "dns"))
  | ((refine' Dn.lt ?a1 ?m1 ?l1 ?p1); (case a1 => assumption); (case m1 => walk_at "mem"); (case l1 => (simp only [List.length_cons, List.length_nil]; omega)); (case p1 => walk_at "dns")))
local macro_rules | `(tactic| walk_at "dns") => `(tactic| first | exact Paired.nil | exact Dn.ints | ((refine' Paired.cons ?a1 ?b1); (case a1 => walk_at "dn1"); (case b1 => walk_at "dns")))
local macro_rules | `(tactic| walk_at "g1") => `(tactic| first
  | ((with_reducible refine' g_ixI ?h1 ?h2 ?h3 ?_); (case h1 => assumption); (case h2 => walk_at "mem"); (case h3 => omega); intro z hz)
  | ((with_reducible refine' g_ixIT ?h1 ?h2 ?h3 ?_); (case h1 => assumption); (case h2 => walk_at "mem"); (case h3 => omega); intro z hz)
  | ((with_reducible refine' g_setI ?h1 ?h2 ?h3 ?_); (case h1 => assumption); (case h2 => walk_at "pk"); (case h3 => omega); intro H2 hh2)
  | ((with_reducible refine' w_ixL ?h1 ?h2 ?_); (case h1 => walk_at "sq"); (case h2 => walk_at "at"))
  | ((with_reducible refine' w_ixT ?h1 ?h2 ?_); (case h1 => walk_at "sq"); (case h2 => walk_at "at"))
  | ((with_reducible refine' w_ixAny ?h1 ?h2 ?_); (case h1 => walk_at "sq"); (case h2 => walk_at "at"))
  | ((with_reducible refine' c_lenA ?h1 ?_); (case h1 => walk_at "sq"))
  | ((with_reducible refine' c_isi ?t1 ?k1 ?_); (case t1 => first | exact ty_T (by walk_at "sq") | exact ty_L (by walk_at "sq")); (case k1 => walk_at "kit"))
  | ((with_reducible refine' g_lst ?h1 ?h2 ?_); (case h1 => assumption); (case h2 => walk_at "sz"); intro p H2 hh2)
  | ((with_reducible refine' g_tup ?h1 ?h2 ?_); (case h1 => assumption); (case h2 => walk_at "sz"); intro p H2 hh2)
  | ((with_reducible refine' g_dict ?h1 ?_); (case h1 => assumption); intro p H2 hh2)
  | ((with_reducible refine' g_listL ?h1 ?h2 ?_); (case h1 => assumption); (case h2 => walk_at "sq"); intro p H2 hh2)
  | ((with_reducible refine' g_listT ?h1 ?h2 ?_); (case h1 => assumption); (case h2 => walk_at "sq"); intro p H2 hh2)
  | ((with_reducible refine' g_tupL ?h1 ?h2 ?_); (case h1 => assumption); (case h2 => walk_at "sq"); intro p H2 hh2)
  | ((with_reducible refine' g_set ?h1 ?h2 ?h3 ?_); (case h1 => assumption); (case h2 => walk_at "pk"); (case h3 => first | rfl | assumption | exact Evl.ixN_nat (by first | omega | (simp only [List.length_cons, List.length_nil]; omega))); intro H2 hh2)
  | ((with_reducible refine' g_kbm ?h1 ?h2 ?_); (case h1 => assumption); (case h2 => walk_at "mem"))
  | ((with_reducible refine' g_kbm0 ?h1 ?h2 ?_); (case h1 => assumption); (case h2 => walk_at "mem"))
  | ((with_reducible refine' g_app ?h1 ?h2 ?h3 ?_); (case h1 => assumption); (case h2 => walk_at "pk"); (case h3 => walk_at "sz"); intro H2 hh2)
  | ((with_reducible refine' g_kapp ?h1 ?h2 ?h3 ?_); (case h1 => assumption); (case h2 => walk_at "pk"); (case h3 => walk_at "sz"); intro H2 hh2)
  | ((with_reducible refine' g_fld ?h1 ?h2 ?h3 ?h4 ?h5 ?_); (case h1 => assumption); (case h2 => walk_at "mem"); (case h3 => assumption); (case h4 => assumption); (case h5 => rfl))
  | ((with_reducible refine' g_sfld ?h1 ?h2 ?h3 ?h4 ?h5 ?_); (case h1 => assumption); (case h2 => walk_at "pk"); (case h3 => assumption); (case h4 => assumption); (case h5 => decide); intro H2 hh2)
  | ((with_reducible refine' g_meth ?h1 ?h2 ?h3 ?_); (case h1 => assumption); (case h2 => walk_at "mem"); (case h3 => rfl))
  | ((with_reducible refine' g_prop ?h1 ?h2 ?_); (case h1 => assumption); (case h2 => walk_at "mem"))
  | ((with_reducible refine' g_make ?h1 ?_); (case h1 => assumption); intro x H2 hh2)
  | ((with_reducible refine' g_cat ?h1 ?h2 ?h3 ?h4 ?_); (case h1 => assumption); (case h2 => walk_at "mem"); (case h3 => walk_at "mem"); (case h4 => walk_at "sz"); intro p H2 hh2)
  | ((with_reducible refine' g_inT ?h1 ?h2 ?h3 ?h4 ?h5 ?_); (case h1 => assumption); (case h2 => walk_at "mem"); (case h3 => rfl); (case h4 => rfl); (case h5 => rfl)))
local macro_rules | `(tactic| walk_at "gs") => `(tactic| repeat first | walk_at "s1" | walk_at "g1")
local macro_rules | `(tactic| walk_at "ite") => `(tactic| first
  | ((with_reducible refine' w_iteT ?h1 ?_); (case h1 => omega))
  | ((with_reducible refine' w_iteF ?h1 ?_); (case h1 => omega))
  | (with_reducible refine w_ite ?_ ?_ <;> intro hq)
  | ((with_reducible refine' w_iteNT ?h1 ?_); (case h1 => omega))
  | ((with_reducible refine' w_iteNF ?h1 ?_); (case h1 => omega))
  | (with_reducible refine w_iteN ?_ ?_ <;> intro hq))
local macro_rules | `(tactic| walk_at "go") => `(tactic| repeat' first | walk_at "s1" | walk_at "g1" | walk_at "ite")
section
variable {P : Program} {w : World} {K : PySem.W.Frag} {mg : Str → Option Value} {base : Heap} {aREG aOPS : Addr}
def sp_pick (K : PySem.W.Frag) : Sp := fun vs H Q _ => ∃ (st c r : Addr) (xs : List V), vs = [.ref st, .ref r] ∧ StoreAt H st c ∧ SqL K H r xs ∧ r ≠ st ∧ 0 < xs.length ∧ xs.length ≤ 100000 ∧
  ∀ v H', v ∈ xs → StoreAt H' st c → Upt [st] H H' → Q v H'
theorem c_pick (T : Txt K mg aREG aOPS) (d : DefAt K mg "_law_pick" s__law_pick) (c__law_take : C8.Cal P w K mg base 2 "_law_take" sp_take []) : C8.Cal P w K mg base 3 "_law_pick" (sp_pick K) [] := by
  refine mk d sc__law_pick (fun _ _ _ _ _ _ us hl => match us, hl with | [_, _], _ => rfl) (fun vs H Q E h => ?_) (fun f cdv A outer s H vs Q E hr h => ?_)
  · obtain ⟨st, c, r, xs, rfl, _⟩ := h
    rfl
  · obtain ⟨st, c, r, xs, rfl, S, hr1, hne, h0, h1, k⟩ := h
    refine ⟨_, (pss_one (ps_ret (pe_ix ix_list (pv 1) (C8.pe_c c__law_take hr (by first | decide | omega) rfl (pa_cons (pv 0) (pa_cons (pe_callB Wk.b_len (by rfl) T.b_len (by decide +kernel) (pa_cons (pv 1) pa_nil)) pa_nil))) (fun _ _ => rfl)))), ?_⟩
    walk_at "s"
    refine c_lenL hr1 ?_
    walk_at "s"
    refine u_take S (by omega) fun n H2 hn S2 U2 => ?_
    walk_at "s"
    obtain ⟨j, rfl⟩ := Int.eq_ofNat_of_zero_le hn.1
    have hj : j < xs.length := by omega
    refine w_ixL (Upt.seqL U2 (by simpa using hne) hr1) (atI_nat (List.getElem?_eq_getElem hj)) ?_
    exact k _ H2 (List.getElem_mem hj) S2 U2
theorem u_pick {st c r : Addr} {xs : List V} {H : Hp} {Q : VK} {E : XK} (S : StoreAt H st c) (hr : SqL K H r xs) (hne : r ≠ st) (h0 : 0 < xs.length) (h1 : xs.length ≤ 100000) (q : ∀ v H', v ∈ xs → StoreAt H' st c → Upt [st] H H' → Q v H') : sp_pick K [.ref st, .ref r] H Q E :=
  ⟨st, c, r, xs, rfl, S, hr, hne, h0, h1, q⟩
def sp_between : Sp := fun vs H Q _ => ∃ (st c : Addr) (lo hi : Int), vs = [.ref st, .int lo, .int hi] ∧ StoreAt H st c ∧ lo ≤ hi ∧ hi - lo < 4611686018427387904 ∧ Drawn st c H (fun k => lo ≤ k ∧ k ≤ hi) Q
theorem c_between (T : Txt K mg aREG aOPS) (d : DefAt K mg "_law_between" s__law_between) (c__law_take : C8.Cal P w K mg base 2 "_law_take" sp_take []) : C8.Cal P w K mg base 3 "_law_between" sp_between [] := by
  refine mk d sc__law_between (fun _ _ _ _ _ _ us hl => match us, hl with | [_, _, _], _ => rfl) (fun vs H Q E h => ?_) (fun f cdv A outer s H vs Q E hr h => ?_)
  · obtain ⟨st, c, lo, hi, rfl, _⟩ := h
    rfl
  · obtain ⟨st, c, lo, hi, rfl, S, h0, h1, k⟩ := h
    refine ⟨_, (pss_cons (ps_set (i := 3) sc__law_between.nd rfl (Or.inl rfl) (pe_op op_add (pe_op op_sub (pv 2) (pv 1)) pe_int))
  (pss_cons (ps_set (i := 4) sc__law_between.nd rfl (Or.inl rfl) (C8.pe_c c__law_take hr (by first | decide | omega) rfl (pa_cons (pv 0) (pa_cons pe_int pa_nil))))
  (pss_cons (ps_if (pt_cmpR op_eq (pv 4) pe_int (nomark _))
    (pss_one (ps_ret (pe_op op_add (pv 1) (C8.pe_c c__law_take hr (by first | decide | omega) rfl (pa_cons (pv 0) (pa_cons (pe_callB (Wk.b_min rfl) (by rfl) T.b_min (by decide +kernel) (pa_cons (pv 3) (pa_cons pe_int pa_nil))) pa_nil))))))
    pss_nil)
  (pss_cons (ps_if (pt_cmpR op_eq (pv 4) pe_int (nomark _))
    (pss_one (ps_ret (pe_op op_sub (pv 2) (C8.pe_c c__law_take hr (by first | decide | omega) rfl (pa_cons (pv 0) (pa_cons (pe_callB (Wk.b_min rfl) (by rfl) T.b_min (by decide +kernel) (pa_cons (pv 3) (pa_cons pe_int pa_nil))) pa_nil))))))
    pss_nil)
  (pss_one (ps_ret (pe_op op_add (pv 1) (C8.pe_c c__law_take hr (by first | decide | omega) rfl (pa_cons (pv 0) (pa_cons (pv 3) pa_nil)))))))))), ?_⟩
    walk_at "s"
    refine u_take S (by omega) fun n H2 hn S2 U2 => ?_
    walk_at "s"
    refine w_ite (fun q1 => ?_) (fun q1 => ?_)
    · walk_at "s"
      refine u_take S2 (by split <;> omega) fun n2 H3 hn2 S3 U3 => ?_
      walk_at "s"
      exact k _ H3 (by have := hn2.2; split at this <;> omega) S3 (U2.trans U3)
    · walk_at "s"
      refine w_ite (fun q2 => ?_) (fun q2 => ?_)
      · walk_at "s"
        refine u_take S2 (by split <;> omega) fun n2 H3 hn2 S3 U3 => ?_
        walk_at "s"
        exact k _ H3 (by have := hn2.2; split at this <;> omega) S3 (U2.trans U3)
      · walk_at "s"
        refine u_take S2 (by omega) fun n2 H3 hn2 S3 U3 => ?_
        walk_at "s"
        exact k _ H3 (by omega) S3 (U2.trans U3)
theorem u_between {st c : Addr} {lo hi : Int} {H : Hp} {Q : VK} {E : XK} (S : StoreAt H st c) (h0 : lo ≤ hi) (h1 : hi - lo < 4611686018427387904) (q : ∀ k H', lo ≤ k ∧ k ≤ hi → StoreAt H' st c → Upt [st] H H' → Q (.int k) H') : sp_between [.ref st, .int lo, .int hi] H Q E :=
  ⟨st, c, lo, hi, rfl, S, h0, h1, q⟩
def sp_size : Sp := fun vs H Q _ => ∃ (st c : Addr) (m : Int), vs = [.ref st, .int m] ∧ StoreAt H st c ∧ 0 ≤ m ∧ m ≤ 1000000 ∧ Drawn st c H (fun k => 0 ≤ k ∧ k ≤ m) Q
theorem c_size (T : Txt K mg aREG aOPS) (d : DefAt K mg "_law_size" s__law_size) (c__law_take : C8.Cal P w K mg base 2 "_law_take" sp_take []) : C8.Cal P w K mg base 3 "_law_size" sp_size [] := by
  refine mk d sc__law_size (fun _ _ _ _ _ _ us hl => match us, hl with | [_, _], _ => rfl) (fun vs H Q E h => ?_) (fun f cdv A outer s H vs Q E hr h => ?_)
  · obtain ⟨st, c, m, rfl, _⟩ := h
    rfl
  · obtain ⟨st, c, m, rfl, S, h0, h1, k⟩ := h
    refine ⟨_, (pss_cons (ps_set (i := 2) sc__law_size.nd rfl (Or.inl rfl) (C8.pe_c c__law_take hr (by first | decide | omega) rfl (pa_cons (pv 0) (pa_cons pe_int pa_nil))))
  (pss_cons (ps_if (pt_cmpR op_eq (pv 2) pe_int (nomark _))
    (pss_one (ps_ret pe_int))
    pss_nil)
  (pss_cons (ps_if (pt_cmpR op_eq (pv 2) pe_int (nomark _))
    (pss_one (ps_ret (pv 1)))
    pss_nil)
  (pss_cons (ps_if (pt_cmpR op_eq (pv 2) pe_int (nomark _))
    (pss_one (ps_ret (pe_callB (Wk.b_max rfl) (by rfl) T.b_max (by decide +kernel) (pa_cons pe_int (pa_cons (pe_op op_sub (pv 1) pe_int) pa_nil)))))
    pss_nil)
  (pss_cons (ps_if (pt_cmpR op_eq (pv 2) pe_int (nomark _))
    (pss_one (ps_ret (C8.pe_c c__law_take hr (by first | decide | omega) rfl (pa_cons (pv 0) (pa_cons (pe_op op_add (pv 1) pe_int) pa_nil)))))
    pss_nil)
  (pss_one (ps_ret (C8.pe_c c__law_take hr (by first | decide | omega) rfl (pa_cons (pv 0) (pa_cons (pe_op op_add (pe_callB (Wk.b_min rfl) (by rfl) T.b_min (by decide +kernel) (pa_cons (pv 1) (pa_cons pe_int pa_nil))) pe_int) pa_nil)))))))))), ?_⟩
    walk_at "s"
    refine u_take S (by omega) fun n H2 hn S2 U2 => ?_
    walk_at "s"
    refine w_ite (fun q1 => ?_) (fun q1 => ?_)
    · walk_at "s"
      exact k _ H2 (by omega) S2 U2
    · walk_at "s"
      refine w_ite (fun q2 => ?_) (fun q2 => ?_)
      · walk_at "s"
        exact k _ H2 (by omega) S2 U2
      · walk_at "s"
        refine w_ite (fun q3 => ?_) (fun q3 => ?_)
        · walk_at "s"
          exact k _ H2 (by split <;> omega) S2 U2
        · walk_at "s"
          refine w_ite (fun q4 => ?_) (fun q4 => ?_)
          · walk_at "s"
            refine u_take S2 (by omega) fun n2 H3 hn2 S3 U3 => ?_
            exact k _ H3 (by omega) S3 (U2.trans U3)
          · walk_at "s"
            refine u_take S2 (by split <;> omega) fun n2 H3 hn2 S3 U3 => ?_
            exact k _ H3 (by have := hn2.2; split at this <;> omega) S3 (U2.trans U3)
theorem u_size {st c : Addr} {m : Int} {H : Hp} {Q : VK} {E : XK} (S : StoreAt H st c) (h0 : 0 ≤ m) (h1 : m ≤ 1000000) (q : ∀ k H', 0 ≤ k ∧ k ≤ m → StoreAt H' st c → Upt [st] H H' → Q (.int k) H') : sp_size [.ref st, .int m] H Q E :=
  ⟨st, c, m, rfl, S, h0, h1, q⟩
def sp_word : Sp := fun vs H Q _ => ∃ (st c : Addr), vs = [.ref st] ∧ StoreAt H st c ∧ Drawn st c H (fun k => 0 ≤ k ∧ k < 65536) Q
theorem c_word (T : Txt K mg aREG aOPS) (d : DefAt K mg "_law_word" s__law_word) (c__law_take : C8.Cal P w K mg base 2 "_law_take" sp_take []) (c__law_pick : C8.Cal P w K mg base 3 "_law_pick" (sp_pick K) []) : C8.Cal P w K mg base 4 "_law_word" sp_word [] := by
  refine mk d sc__law_word (fun _ _ _ _ _ _ us hl => match us, hl with | [_], _ => rfl) (fun vs H Q E h => ?_) (fun f cdv A outer s H vs Q E hr h => ?_)
  · obtain ⟨st, c, rfl, _⟩ := h
    rfl
  · obtain ⟨st, c, rfl, S, k⟩ := h
    refine ⟨_, (pss_cons (ps_set (i := 1) sc__law_word.nd rfl (Or.inl rfl) (C8.pe_c c__law_take hr (by first | decide | omega) rfl (pa_cons (pv 0) (pa_cons pe_int pa_nil))))
  (pss_cons (ps_if (pt_cmpR op_eq (pv 1) pe_int (nomark _))
    (pss_one (ps_ret (C8.pe_c c__law_pick hr (by first | decide | omega) rfl (pa_cons (pv 0) (pa_cons (pe_lst (pa_cons pe_int (pa_cons pe_int (pa_cons pe_int (pa_cons pe_int (pa_cons pe_int (pa_cons pe_int (pa_cons pe_int (pa_cons pe_int (pa_cons pe_int (pa_cons pe_int (pa_cons pe_int (pa_cons pe_int (pa_cons pe_int (pa_cons pe_int pa_nil))))))))))))))) pa_nil)))))
    pss_nil)
  (pss_cons (ps_if (pt_cmpR op_eq (pv 1) pe_int (nomark _))
    (pss_one (ps_ret (C8.pe_c c__law_take hr (by first | decide | omega) rfl (pa_cons (pv 0) (pa_cons pe_int pa_nil)))))
    pss_nil)
  (pss_one (ps_ret (C8.pe_c c__law_take hr (by first | decide | omega) rfl (pa_cons (pv 0) (pa_cons pe_int pa_nil)))))))), ?_⟩
    walk_at "s"
    refine u_take S (by omega) fun n H2 hn S2 U2 => ?_
    walk_at "s"
    refine w_ite (fun q1 => ?_) (fun q1 => ?_)
    · walk_at "s"
      refine w_new (by walk_at "sz") fun p H3 n3 => ?_
      walk_at "s"
      refine u_pick (S2.new n3) (SqL.of n3.at_) (S2.off n3).1 (by simp) (by simp) fun v H4 hv S4 U4 => ?_
      have hv2 : ∃ k : Int, v = .int k ∧ 0 ≤ k ∧ k < 65536 := by
        simp only [List.mem_cons, List.not_mem_nil, or_false] at hv
        rcases hv with h | h | h | h | h | h | h | h | h | h | h | h | h | h <;> exact ⟨_, h, by omega, by omega⟩
      obtain ⟨z, rfl, hz⟩ := hv2
      exact k z H4 hz S4 ((U2.trans (n3.keep.mono (by simp))).trans U4)
    · walk_at "s"
      refine w_ite (fun q2 => ?_) (fun q2 => ?_)
      · walk_at "s"
        refine u_take S2 (by omega) fun n2 H3 hn2 S3 U3 => ?_
        exact k _ H3 (by omega) S3 (U2.trans U3)
      · walk_at "s"
        refine u_take S2 (by omega) fun n2 H3 hn2 S3 U3 => ?_
        exact k _ H3 (by omega) S3 (U2.trans U3)
theorem u_word {st c : Addr} {H : Hp} {Q : VK} {E : XK} (S : StoreAt H st c) (q : ∀ k H', 0 ≤ k ∧ k < 65536 → StoreAt H' st c → Upt [st] H H' → Q (.int k) H') : sp_word [.ref st] H Q E :=
  ⟨st, c, rfl, S, q⟩
end
end K45
set_option Elab.async false
set_option linter.all false
set_option maxRecDepth 100000
set_option maxHeartbeats 4000000
namespace K45
open PySem PySem.Spec PyProof.Rows L2 Wk
local macro_rules | `(tactic| walk_at "u1") => `(tactic| fail "no more")
local macro_rules | `(tactic| walk_at "pos") => `(tactic| first | assumption | omega | decide | (simp only [Int.ofNat_eq_natCast] at *; omega))
local macro_rules | `(tactic| walk_at "sz") => `(tactic| first
  | (simp only [List.length_cons, List.length_nil]; decide)
  | exact Evl.sz_of (by omega)
  | exact Evl.sz_lt (by omega)
  | exact Evl.sz_of (by simp only [List.length_map, List.length_append, List.length_cons, List.length_nil, List.length_replicate]; omega)
  | exact Evl.sz_lt (by simp only [List.length_map, List.length_append, List.length_cons, List.length_nil, List.length_replicate]; omega))
local macro_rules | `(tactic| walk_at "cond") => `(tactic| first
  | exact Or.inr ⟨by decide, by decide⟩
  | (show (0 : Int) < _; first | decide | assumption | omega)
  | exact Or.inl ⟨by omega, by omega⟩
  | exact Or.inr ⟨by omega, by omega⟩
  | exact ⟨by decide, by decide, by decide⟩
  | exact log2_lt (by omega) (by omega)
  | exact ⟨by omega, by omega⟩)
local macro_rules | `(tactic| walk_at "ty") => `(tactic| first
  | exact ty_int | exact ty_bl | exact ty_str | exact ty_non
  | exact ty_L (by assumption) | exact ty_T (by assumption)
  | exact ty_L (SqL.of (by assumption)) | exact ty_T (SqT.of (by assumption)))
local macro_rules | `(tactic| walk_at "kit") => `(tactic| first
  | exact k_ii | exact k_ib | exact k_is | exact k_il | exact k_it
  | exact k_bb | exact k_bi | exact k_bs | exact k_bl | exact k_bt
  | exact k_ss | exact k_sb | exact k_si | exact k_sl | exact k_st
  | exact k_ll | exact k_lb | exact k_li | exact k_ls | exact k_lt
  | exact k_tt | exact k_tb | exact k_ti | exact k_ts | exact k_tl
  | exact k_nn | exact k_ni | exact k_ns | exact k_nl | exact k_nt)
local macro_rules | `(tactic| walk_at "s1") => `(tactic| first
  | with_reducible refine w_seq ?_
  | with_reducible refine w_set ?_
  | with_reducible refine w_op ?_
  | ((with_reducible refine' w_var ?h1 ?_); (case h1 => rfl))
  | with_reducible refine w_c ?_
  | with_reducible refine w_cb ?_
  | with_reducible refine w_cons ?_
  | with_reducible refine w_nil ?_
  | with_reducible refine w_I0 ?_
  | ((with_reducible refine' w_I ?c1 ?_); case c1 => walk_at "cond")
  | with_reducible refine w_ret ?_
  | with_reducible refine w_next ?_
  | with_reducible refine w_ifS ?_
  | with_reducible refine w_test ?_
  | with_reducible refine w_tB ?_
  | with_reducible refine w_k ?_
  | with_reducible refine w_eqI ?_
  | with_reducible refine w_neI ?_
  | with_reducible refine w_eqS ?_
  | with_reducible refine w_neS ?_
  | with_reducible refine w_and ?_
  | with_reducible refine w_or ?_
  | with_reducible refine w_not ?_
  | with_reducible refine w_andV ?_
  | with_reducible refine w_orV ?_
  | with_reducible refine w_notV ?_
  | with_reducible refine w_ifE ?_
  | with_reducible refine w_true ?_
  | with_reducible refine w_false ?_
  | with_reducible refine w_ntrue ?_
  | with_reducible refine w_nfalse ?_
  | with_reducible refine w_call ?_
  | with_reducible refine c_int ?_
  | with_reducible refine c_abs ?_
  | with_reducible refine c_max ?_
  | with_reducible refine c_min ?_
  | with_reducible refine w_drop ?_
  | with_reducible refine w_sfld ?_
  | with_reducible refine w_meth ?_
  | with_reducible refine w_make ?_
  | with_reducible refine w_prop ?_
  | with_reducible refine w_callK ?_
  | with_reducible refine w_callN ?_
  | with_reducible refine w_star ?_
  | with_reducible refine w_gcons ?_
  | with_reducible refine w_gname ?_
  | with_reducible refine w_gnil ?_
  | with_reducible refine w_retN ?_
  | with_reducible refine w_tup ?_
  | with_reducible refine w_lst ?_
  | with_reducible refine w_fld ?_
  | with_reducible refine w_bm ?_
  | with_reducible refine w_bm0 ?_
  | with_reducible refine w_forL ?_
  | with_reducible refine w_forT ?_
  | with_reducible refine w_forS ?_
  | with_reducible refine w_forR ?_
  | with_reducible refine w_lcR ?_
  | with_reducible refine w_lcL ?_
  | with_reducible refine w_lcT ?_
  | with_reducible refine w_isN ?_
  | with_reducible refine w_notN ?_
  | with_reducible refine w_asg ?_
  | with_reducible refine w_gsub ?_
  | ((with_reducible refine' w_aug ?h1 ?_); (case h1 => rfl))
  | with_reducible refine w_augS ?_
  | with_reducible refine w_ipI ?_
  | with_reducible refine w_un ?_
  | with_reducible refine w_U ?_
  | ((with_reducible refine' w_iteF ?f1 ?_); case f1 => (first | (intro h; cases h; done) | decide))
  | ((with_reducible refine' w_iteT ?f1 ?_); case f1 => rfl)
  | ((with_reducible refine' w_iteNF ?f1 ?_); case f1 => rfl)
  | ((with_reducible refine' w_iteNT ?f1 ?_); case f1 => (first | (intro h; cases h; done) | decide))
  | ((with_reducible refine' c_isi ?t1 ?k1 ?_); (case t1 => walk_at "ty"); (case k1 => walk_at "kit"))
  | ((with_reducible refine' w_eq ?e1 ?_); case e1 => rfl)
  | ((with_reducible refine' w_ne ?e1 ?_); case e1 => rfl)
  | walk_at "u1")
local macro_rules | `(tactic| walk_at "s") => `(tactic| repeat walk_at "s1")
local macro_rules | `(tactic| walk_at "mem") => `(tactic| first | with_reducible exact List.mem_cons_self .. | ((with_reducible refine' List.mem_cons_of_mem _ ?q); (case q => walk_at "mem")) | assumption | ((with_reducible refine' List.mem_append_right _ ?q); (case q => walk_at "mem")) | (exact List.mem_append_left _ (by assumption)))
local macro_rules | `(tactic| walk_at "pk") => `(tactic| first | with_reducible exact Pk.here | ((with_reducible refine' Pk.there ?q); (case q => walk_at "pk")) | ((with_reducible refine' Pk.app ?q); (case q => walk_at "pk")))
local macro_rules | `(tactic| walk_at "pkb") => `(tactic| first | with_reducible exact PkB.here | ((with_reducible refine' PkB.there ?q); (case q => walk_at "pkb")) | ((with_reducible refine' PkB.app ?q); (case q => walk_at "pkb")))
local macro_rules | `(tactic| walk_at "spl") => `(tactic| first | with_reducible exact Spl.nil | ((with_reducible refine' Spl.cons ?h ?t); (case h => walk_at "pk"); (case t => walk_at "spl")) | ((with_reducible refine' Spl.blk ?h ?t); (case h => walk_at "pkb"); (case t => walk_at "spl")))
local macro_rules | `(tactic| walk_at "sbx") => `(tactic| first | with_reducible exact Sb.refl | with_reducible exact Sb.nil | with_reducible exact Sb.left | ((with_reducible refine' Sb.cons ?h ?t); (case h => walk_at "pk"); (case t => walk_at "sbx")) | ((with_reducible refine' Sb.blk ?h ?t); (case h => walk_at "pkb"); (case t => walk_at "sbx")) | ((with_reducible refine' Sb.drop ?q); (case q => walk_at "sbx")) | ((with_reducible refine' Sb.right ?q); (case q => walk_at "sbx")))
local macro_rules | `(tactic| walk_at "hd") => `(tactic| first | assumption | exact Hd.sb (by assumption) (by walk_at "sbx"))
local macro_rules | `(tactic| walk_at "sq") => `(tactic| first
  | assumption
  | exact Hd.sqL (by assumption) (by walk_at "mem")
  | exact Hd.sqT (by assumption) (by walk_at "mem")
  | exact Hd.sqF (by assumption) (by walk_at "mem")
  | (refine .inl ?_; walk_at "sq")
  | (refine .inr ?_; walk_at "sq"))
local macro_rules | `(tactic| walk_at "at") => `(tactic| first | rfl | assumption | exact atI_nat (by assumption))
local macro_rules | `(tactic| walk_at "dn1") => `(tactic| first
  | exact Dn.int | exact Dn.str | exact Dn.non | exact Dn.bl | assumption
  | ((refine' Dn.tp ?a1 ?m1 ?l1 ?p1); (case a1 => assumption); (case m1 => walk_at "mem"); (case l1 => (simp only [List.length_cons, List.length_nil]; omega)); (case p1 => walk_at "dns"))
  | ((refine' Dn.lt ?a1 ?m1 ?l1 ?p1); (case a1 => assumption); (case m1 => walk_at "mem"); (case l1 => (simp only [List.length_cons, List.length_nil]; omega)); (case p1 => walk_at "dns")))
local macro_rules | `(tactic| walk_at "dns") => `(tactic| first | exact Paired.nil | exact Dn.ints | ((refine' Paired.cons ?a1 ?b1); (case a1 => walk_at "dn1"); (case b1 => walk_at "dns")))
local macro_rules | `(tactic| walk_at "g1") => `(tactic| first
  | ((with_reducible refine' g_ixI ?h1 ?h2 ?h3 ?_); (case h1 => assumption); (case h2 => walk_at "mem"); (case h3 => omega); intro z hz)
  | ((with_reducible refine' g_ixIT ?h1 ?h2 ?h3 ?_); (case h1 => assumption); (case h2 => walk_at "mem"); (case h3 => omega); intro z hz)
  | ((with_reducible refine' g_setI ?h1 ?h2 ?h3 ?_); (case h1 => assumption); (case h2 => walk_at "pk"); (case h3 => omega); intro H2 hh2)
  | ((with_reducible refine' w_ixL ?h1 ?h2 ?_); (case h1 => walk_at "sq"); (case h2 => walk_at "at"))
  | ((with_reducible refine' w_ixT ?h1 ?h2 ?_); (case h1 => walk_at "sq"); (case h2 => walk_at "at"))
  | ((with_reducible refine' w_ixAny ?h1 ?h2 ?_); (case h1 => walk_at "sq"); (case h2 => walk_at "at"))
  | ((with_reducible refine' c_lenA ?h1 ?_); (case h1 => walk_at "sq"))
  | ((with_reducible refine' c_isi ?t1 ?k1 ?_); (case t1 => first | exact ty_T (by walk_at "sq") | exact ty_L (by walk_at "sq")); (case k1 => walk_at "kit"))
  | ((with_reducible refine' g_lst ?h1 ?h2 ?_); (case h1 => assumption); (case h2 => walk_at "sz"); intro p H2 hh2)
  | ((with_reducible refine' g_tup ?h1 ?h2 ?_); (case h1 => assumption); (case h2 => walk_at "sz"); intro p H2 hh2)
  | ((with_reducible refine' g_dict ?h1 ?_); (case h1 => assumption); intro p H2 hh2)
  | ((with_reducible refine' g_listL ?h1 ?h2 ?_); (case h1 => assumption); (case h2 => walk_at "sq"); intro p H2 hh2)
  | ((with_reducible refine' g_listT ?h1 ?h2 ?_); (case h1 => assumption); (case h2 => walk_at "sq"); intro p H2 hh2)
  | ((with_reducible refine' g_tupL ?h1 ?h2 ?_); (case h1 => assumption); (case h2 => walk_at "sq"); intro p H2 hh2)
  | ((with_reducible refine' g_set ?h1 ?h2 ?h3 ?_); (case h1 => assumption); (case h2 => walk_at "pk"); (case h3 => first | rfl | assumption | exact Evl.ixN_nat (by first | omega | (simp only [List.length_cons, List.length_nil]; omega))); intro H2 hh2)
  | ((with_reducible refine' g_kbm ?h1 ?h2 ?_); (case h1 => assumption); (case h2 => walk_at "mem"))
  | ((with_reducible refine' g_kbm0 ?h1 ?h2 ?_); (case h1 => assumption); (case h2 => walk_at "mem"))
  | ((with_reducible refine' g_app ?h1 ?h2 ?h3 ?_); (case h1 => assumption); (case h2 => walk_at "pk"); (case h3 => walk_at "sz"); intro H2 hh2)
  | ((with_reducible refine' g_kapp ?h1 ?h2 ?h3 ?_); (case h1 => assumption); (case h2 => walk_at "pk"); (case h3 => walk_at "sz"); intro H2 hh2)
  | ((with_reducible refine' g_fld ?h1 ?h2 ?h3 ?h4 ?h5 ?_); (case h1 => assumption); (case h2 => walk_at "mem"); (case h3 => assumption); (case h4 => assumption); (case h5 => rfl))
  | ((with_reducible refine' g_sfld ?h1 ?h2 ?h3 ?h4 ?h5 ?_); (case h1 => assumption); (case h2 => walk_at "pk"); (case h3 => assumption); (case h4 => assumption); (case h5 => decide); intro H2 hh2)
  | ((with_reducible refine' g_meth ?h1 ?h2 ?h3 ?_); (case h1 => assumption); (case h2 => walk_at "mem"); (case h3 => rfl))
  | ((with_reducible refine' g_prop ?h1 ?h2 ?_); (case h1 => assumption); (case h2 => walk_at "mem"))
  | ((with_reducible refine' g_make ?h1 ?_); (case h1 => assumption); intro x H2 hh2)
  | ((with_reducible refine' g_cat ?h1 ?h2 ?h3 ?h4 ?_); (case h1 => assumption); (case h2 => walk_at "mem"); (case h3 => walk_at "mem"); (case h4 => walk_at "sz"); intro p H2 hh2)
  | ((with_reducible refine' g_inT ?h1 ?h2 ?h3 ?h4 ?h5 ?_); (case h1 => assumption); (case h2 => walk_at "mem"); (case h3 => rfl); (case h4 => rfl); (case h5 => rfl)))
local macro_rules | `(tactic| walk_at "gs") => `(tactic| repeat first | walk_at "s1" | walk_at "g1")
local macro_rules | `(tactic| walk_at "ite") => `(tactic| first
  | ((with_reducible refine' w_iteT ?h1 ?_); (case h1 => omega))
  | ((with_reducible refine' w_iteF ?h1 ?_); (case h1 => omega))
  | (with_reducible refine w_ite ?_ ?_ <;> intro hq)
  | ((with_reducible refine' w_iteNT ?h1 ?_); (case h1 => omega))
  | ((with_reducible refine' w_iteNF ?h1 ?_); (case h1 => omega))
  | (with_reducible refine w_iteN ?_ ?_ <;> intro hq))
local macro_rules | `(tactic| walk_at "go") => `(tactic| repeat' first | walk_at "s1" | walk_at "g1" | walk_at "ite")
section
variable {P : Program} {w : World} {K : PySem.W.Frag} {mg : Str → Option Value} {base : Heap} {aREG aOPS : Addr}
/-! ### likeness -/
/-- two things of one datum, nested less than n deep, are alike -/
def sp_alike (K : PySem.W.Frag) (n : Nat) : Sp := fun vs H Q _ => ∃ (v1 v2 : V) (d : PyData), vs = [v1, v2] ∧ (match n with
  | 0 => False
  | n + 1 => Dn K [] H n v1 d ∧ Dn K [] H n v2 d) ∧ Q (.bl true) H
theorem alike_step (n : Nat) (T : Txt K mg aREG aOPS) (d : DefAt K mg "_law_alike" s__law_alike) (c__law_alike : C8.Cal P w K mg base n "_law_alike" (sp_alike K n) []) : C8.Cal P w K mg base (n + 1) "_law_alike" (sp_alike K (n + 1)) [] := by
  refine mk d sc__law_alike (fun _ _ _ _ _ _ us hl => match us, hl with | [_, _], _ => rfl) (fun vs H Q E h => ?_) (fun f cdv A outer s H vs Q E hr h => ?_)
  · obtain ⟨v1, v2, d, rfl, _⟩ := h
    rfl
  · obtain ⟨v1, v2, d, rfl, hd, k⟩ := h
    refine ⟨_, (pss_cons (ps_if (PW.pt (pw_or (pt_cmpR op_isN1 (pv 0) pe_non (nomark _)) (pw_or1 (pt_cmpR op_isN1 (pv 1) pe_non (nomark _)))))
    (pss_one (ps_ret (pe_and (pe_cmpR op_isN1 (pv 0) pe_non (nomark _)) (pe_one (pe_cmpR op_isN1 (pv 1) pe_non (nomark _))))))
    pss_nil)
  (pss_cons (ps_if (PW.pt (pw_or (pt_val (pe_callB call_isi (by rfl) T.b_isinstance (by decide +kernel) (pa_cons (pv 0) (pa_cons (pe_bltn (v := .ty "bool") (by rfl) T.b_bool (by decide +kernel) rfl) pa_nil)))) (pw_or1 (pt_val (pe_callB call_isi (by rfl) T.b_isinstance (by decide +kernel) (pa_cons (pv 1) (pa_cons (pe_bltn (v := .ty "bool") (by rfl) T.b_bool (by decide +kernel) rfl) pa_nil)))))))
    (pss_one (ps_ret (pe_and (pe_callB call_isi (by rfl) T.b_isinstance (by decide +kernel) (pa_cons (pv 0) (pa_cons (pe_bltn (v := .ty "bool") (by rfl) T.b_bool (by decide +kernel) rfl) pa_nil))) (pe_and (pe_callB call_isi (by rfl) T.b_isinstance (by decide +kernel) (pa_cons (pv 1) (pa_cons (pe_bltn (v := .ty "bool") (by rfl) T.b_bool (by decide +kernel) rfl) pa_nil))) (pe_one (pe_cmpR op_eq (pv 0) (pv 1) (nomark _)))))))
    pss_nil)
  (pss_cons (ps_if (pt_val (pe_callB call_isi (by rfl) T.b_isinstance (by decide +kernel) (pa_cons (pv 0) (pa_cons (pe_bltn (v := .ty "int") (by rfl) T.b_int (by decide +kernel) rfl) pa_nil))))
    (pss_one (ps_ret (pe_and (pe_callB call_isi (by rfl) T.b_isinstance (by decide +kernel) (pa_cons (pv 1) (pa_cons (pe_bltn (v := .ty "int") (by rfl) T.b_int (by decide +kernel) rfl) pa_nil))) (pe_one (pe_cmpR op_eq (pv 0) (pv 1) (nomark _))))))
    pss_nil)
  (pss_cons (ps_if (pt_val (pe_callB call_isi (by rfl) T.b_isinstance (by decide +kernel) (pa_cons (pv 0) (pa_cons (pe_bltn (v := .ty "str") (by rfl) T.b_str (by decide +kernel) rfl) pa_nil))))
    (pss_one (ps_ret (pe_and (pe_callB call_isi (by rfl) T.b_isinstance (by decide +kernel) (pa_cons (pv 1) (pa_cons (pe_bltn (v := .ty "str") (by rfl) T.b_str (by decide +kernel) rfl) pa_nil))) (pe_one (pe_cmpR op_eq (pv 0) (pv 1) (nomark _))))))
    pss_nil)
  (pss_cons (ps_if (pt_val (pe_callB call_isi (by rfl) T.b_isinstance (by decide +kernel) (pa_cons (pv 0) (pa_cons (pe_bltn (v := .ty "list") (by rfl) T.b_list (by decide +kernel) rfl) pa_nil))))
    (pss_one (ps_if (pt_not (pt_val (pe_callB call_isi (by rfl) T.b_isinstance (by decide +kernel) (pa_cons (pv 1) (pa_cons (pe_bltn (v := .ty "list") (by rfl) T.b_list (by decide +kernel) rfl) pa_nil)))))
        (pss_one (ps_ret pe_bl))
        pss_nil))
    (pss_one (ps_if (PW.pt (pw_or (pt_not (pt_val (pe_callB call_isi (by rfl) T.b_isinstance (by decide +kernel) (pa_cons (pv 0) (pa_cons (pe_bltn (v := .ty "tuple") (by rfl) T.b_tuple (by decide +kernel) rfl) pa_nil))))) (pw_or1 (pt_not (pt_val (pe_callB call_isi (by rfl) T.b_isinstance (by decide +kernel) (pa_cons (pv 1) (pa_cons (pe_bltn (v := .ty "tuple") (by rfl) T.b_tuple (by decide +kernel) rfl) pa_nil))))))))
        (pss_one (ps_ret pe_bl))
        pss_nil)))
  (pss_cons (ps_if (pt_cmpR op_ne (pe_callB Wk.b_len (by rfl) T.b_len (by decide +kernel) (pa_cons (pv 0) pa_nil)) (pe_callB Wk.b_len (by rfl) T.b_len (by decide +kernel) (pa_cons (pv 1) pa_nil)) (nomark _))
    (pss_one (ps_ret pe_bl))
    pss_nil)
  (pss_cons (ps_for PassesOwn.never rfl (pi_range1 rfl T.b_range (pa_cons (pe_callB Wk.b_len (by rfl) T.b_len (by decide +kernel) (pa_cons (pv 0) pa_nil)) pa_nil)) (pg_name (i := 2) sc__law_alike.nd rfl (Or.inl rfl))
    (pss_one (ps_if (pt_not (pt_val (C8.pe_c c__law_alike hr (by first | decide | omega) rfl (pa_cons (pe_ix ix_seq (pv 0) (pv 2) (fun _ _ => rfl)) (pa_cons (pe_ix ix_seq (pv 1) (pv 2) (fun _ _ => rfl)) pa_nil)))))
        (pss_one (ps_ret pe_bl))
        pss_nil)))
  (pss_one (ps_ret pe_bl))))))))), ?_⟩
    have scal : ∀ {v1 v2 d}, Sc v1 d → Sc v2 d → v1 = v2 := fun h1 h2 => by cases h1 <;> cases h2 <;> rfl
    have hd' : Sc v1 d ∧ Sc v2 d ∨ ∃ m a1 a2 xs ys ds, n = m + 1 ∧ v1 = .ref a1 ∧ v2 = .ref a2 ∧ xs.length ≤ 100000 ∧ Paired (Dn K [] H m) xs ds ∧ Paired (Dn K [] H m) ys ds ∧ ((SqL K H a1 xs ∧ SqL K H a2 ys) ∨ (SqT K H a1 xs ∧ SqT K H a2 ys)) := by
      obtain ⟨h1, h2⟩ := hd
      cases n with
      | zero => exact .inl ⟨h1, h2⟩
      | succ m =>
        rcases h1 with h1 | ⟨a, xs, ds, e1, e2, _, hq, hl, p⟩ | ⟨a, xs, ds, e1, e2, _, hq, hl, p⟩
        · rcases h2 with h2 | ⟨a', xs', ds', e1', e2', _, hq', hl', p'⟩ | ⟨a', xs', ds', e1', e2', _, hq', hl', p'⟩
          · exact .inl ⟨h1, h2⟩
          · subst e2'; cases h1
          · subst e2'; cases h1
        · subst e2
          rcases h2 with h2 | ⟨a', xs', ds', e1', e2', _, hq', hl', p'⟩ | ⟨a', xs', ds', e1', e2', _, hq', hl', p'⟩
          · cases h2
          · cases e2'
            exact .inr ⟨m, a, a', xs, xs', ds, rfl, e1, e1', hl, p, p', .inl ⟨hq, hq'⟩⟩
          · cases e2'
        · subst e2
          rcases h2 with h2 | ⟨a', xs', ds', e1', e2', _, hq', hl', p'⟩ | ⟨a', xs', ds', e1', e2', _, hq', hl', p'⟩
          · cases h2
          · cases e2'
          · cases e2'
            exact .inr ⟨m, a, a', xs, xs', ds, rfl, e1, e1', hl, p, p', .inr ⟨hq, hq'⟩⟩
    clear hd
    rcases hd' with ⟨h1, h2⟩ | ⟨m, a1, a2, xs, ys, ds, rfl, rfl, rfl, hl, p1, p2, hq⟩
    · obtain rfl := scal h1 h2
      clear h2 scal
      cases h1 <;> walk_at "s" <;> first | exact k | (simp only [decide_true]; exact k)
    · have e1 := p1.length
      have el : ys.length = xs.length := by rw [p1.length, p2.length]
      have hx : SqL K H a1 xs ∨ SqT K H a1 xs := hq.elim (fun z => .inl z.1) fun z => .inr z.1
      have hy : SqL K H a2 ys ∨ SqT K H a2 ys := hq.elim (fun z => .inl z.2) fun z => .inr z.2
      have rest : ∀ (lp : TS) (D : Ends), True := fun _ _ => trivial
      rcases hq with ⟨q1, q2⟩ | ⟨q1, q2⟩
      all_goals
        walk_at "s"
        refine c_lenA hx ?_
        walk_at "s"
        refine c_lenA hy ?_
        rw [el]
        walk_at "s"
        refine c_lenA hx ?_
        walk_at "s"
        refine l_range rfl (by omega) (fun i σ H2 => H2 = H ∧ ∃ v, σ = [some (.ref a1), some (.ref a2), v]) ⟨rfl, none, rfl⟩ ?_ ?_
        · rintro i σ H2 hi ⟨rfl, v, rfl⟩
          obtain ⟨d0, hd0, z1⟩ := paired_at p1 (List.getElem?_eq_getElem hi)
          obtain ⟨d1, hd1, z2⟩ := paired_at p2 (List.getElem?_eq_getElem (by omega : i < ys.length))
          rw [hd0] at hd1
          cases hd1
          walk_at "s"
          refine w_ixAny hx (atI_nat (List.getElem?_eq_getElem hi)) ?_
          walk_at "s"
          refine w_ixAny hy (atI_nat (List.getElem?_eq_getElem (by omega : i < ys.length))) ?_
          walk_at "s"
          refine ⟨_, _, d0, rfl, ⟨z1, z2⟩, ?_⟩
          walk_at "s"
          exact ⟨rfl, _, rfl⟩
        · rintro σ H2 ⟨rfl, v, rfl⟩
          walk_at "s"
          exact k
theorem cal_false {x : Str} {st : Stmt} {k : Nat} {sp : Sp} {ps : List Str} (d : DefAt K mg x st)
    (hb : ∀ (kV doc pm : Value) (an : Option Addr) (cdv ct : Value) (us : List Value), us.length = ps.length → bindArgs (PySem.W.fnOf x x (defArgs st) (defBody st) (defScope st) .none kV doc pm an cdv ct) ⟨us, []⟩ = pure (ps.zip us))
    (h : ∀ vs H Q E, sp vs H Q E → False) : C8.Cal P w K mg base k x sp [] := by
  obtain ⟨f, fd, F, hm⟩ := d
  exact ⟨f, fd, ps, [], ⟨fun vs H Q E z => (h _ _ _ _ z).elim, fun A outer s H args us vs Q E _ _ _ _ z => (h _ _ _ _ z).elim⟩, hm, F.kp, F.bindsN hb, .nil⟩
theorem c_alike (T : Txt K mg aREG aOPS) (d : DefAt K mg "_law_alike" s__law_alike) : ∀ n : Nat, C8.Cal P w K mg base n "_law_alike" (sp_alike K n) []
  | 0 => cal_false (ps := ["one", "two"]) d (fun _ _ _ _ _ _ us hl => match us, hl with | [_, _], _ => rfl) fun vs H Q E ⟨_, _, _, _, z, _⟩ => z
  | n + 1 => alike_step n T d (c_alike T d n)
theorem u_alike {n : Nat} {v1 v2 : V} {d : PyData} {H : Hp} {Q : VK} {E : XK} (h1 : Dn K [] H n v1 d) (h2 : Dn K [] H n v2 d) (q : Q (.bl true) H) : sp_alike K (n + 1) [v1, v2] H Q E := ⟨v1, v2, d, rfl, ⟨h1, h2⟩, q⟩
end
end K45
set_option Elab.async false
set_option linter.all false
set_option maxRecDepth 100000
set_option maxHeartbeats 4000000
namespace K45
open PySem PySem.Spec PyProof.Rows L2 Wk
local macro_rules | `(tactic| walk_at "u1") => `(tactic| fail "no more")
local macro_rules | `(tactic| walk_at "pos") => `(tactic| first | assumption | omega | decide | (simp only [Int.ofNat_eq_natCast] at *; omega))
local macro_rules | `(tactic| walk_at "sz") => `(tactic| first
  | (simp only [List.length_cons, List.length_nil]; decide)
  | exact Evl.sz_of (by omega)
  | exact Evl.sz_lt (by omega)
  | exact Evl.sz_of (by simp only [List.length_map, List.length_append, List.length_cons, List.length_nil, List.length_replicate]; omega)
  | exact Evl.sz_lt (by simp only [List.length_map, List.length_append, List.length_cons, List.length_nil, List.length_replicate]; omega))
local macro_rules | `(tactic| walk_at "cond") => `(tactic| first
  | exact Or.inr ⟨by decide, by decide⟩
  | (show (0 : Int) < _; first | decide | assumption | omega)
  | exact Or.inl ⟨by omega, by omega⟩
  | exact Or.inr ⟨by omega, by omega⟩
  | exact ⟨by decide, by decide, by decide⟩
  | exact log2_lt (by omega) (by omega)
  | exact ⟨by omega, by omega⟩)
local macro_rules | `(tactic| walk_at "ty") => `(tactic| first
  | exact ty_int | exact ty_bl | exact ty_str | exact ty_non
  | exact ty_L (by assumption) | exact ty_T (by assumption)
  | exact ty_L (SqL.of (by assumption)) | exact ty_T (SqT.of (by assumption)))
local macro_rules | `(tactic| walk_at "kit") => `(tactic| first
  | exact k_ii | exact k_ib | exact k_is | exact k_il | exact k_it
  | exact k_bb | exact k_bi | exact k_bs | exact k_bl | exact k_bt
  | exact k_ss | exact k_sb | exact k_si | exact k_sl | exact k_st
  | exact k_ll | exact k_lb | exact k_li | exact k_ls | exact k_lt
  | exact k_tt | exact k_tb | exact k_ti | exact k_ts | exact k_tl
  | exact k_nn | exact k_ni | exact k_ns | exact k_nl | exact k_nt)
local macro_rules | `(tactic| walk_at "s1") => `(tactic| first
  | with_reducible refine w_seq ?_
  | with_reducible refine w_set ?_
  | with_reducible refine w_op ?_
  | ((with_reducible refine' w_var ?h1 ?_); (case h1 => rfl))
  | with_reducible refine w_c ?_
  | with_reducible refine w_cb ?_
  | with_reducible refine w_cons ?_
  | with_reducible refine w_nil ?_
  | with_reducible refine w_I0 ?_
  | ((with_reducible refine' w_I ?c1 ?_); case c1 => walk_at "cond")
  | with_reducible refine w_ret ?_
  | with_reducible refine w_next ?_
  | with_reducible refine w_ifS ?_
  | with_reducible refine w_test ?_
  | with_reducible refine w_tB ?_
  | with_reducible refine w_k ?_
  | with_reducible refine w_eqI ?_
  | with_reducible refine w_neI ?_
  | with_reducible refine w_eqS ?_
  | with_reducible refine w_neS ?_
  | with_reducible refine w_and ?_
  | with_reducible refine w_or ?_
  | with_reducible refine w_not ?_
  | with_reducible refine w_andV ?_
  | with_reducible refine w_orV ?_
  | with_reducible refine w_notV ?_
  | with_reducible refine w_ifE ?_
  | with_reducible refine w_true ?_
  | with_reducible refine w_false ?_
  | with_reducible refine w_ntrue ?_
  | with_reducible refine w_nfalse ?_
  | with_reducible refine w_call ?_
  | with_reducible refine c_int ?_
  | with_reducible refine c_abs ?_
  | with_reducible refine c_max ?_
  | with_reducible refine c_min ?_
  | with_reducible refine w_drop ?_
  | with_reducible refine w_sfld ?_
  | with_reducible refine w_meth ?_
  | with_reducible refine w_make ?_
  | with_reducible refine w_prop ?_
  | with_reducible refine w_callK ?_
  | with_reducible refine w_callN ?_
  | with_reducible refine w_star ?_
  | with_reducible refine w_gcons ?_
  | with_reducible refine w_gname ?_
  | with_reducible refine w_gnil ?_
  | with_reducible refine w_retN ?_
  | with_reducible refine w_tup ?_
  | with_reducible refine w_lst ?_
  | with_reducible refine w_fld ?_
  | with_reducible refine w_bm ?_
  | with_reducible refine w_bm0 ?_
  | with_reducible refine w_forL ?_
  | with_reducible refine w_forT ?_
  | with_reducible refine w_forS ?_
  | with_reducible refine w_forR ?_
  | with_reducible refine w_lcR ?_
  | with_reducible refine w_lcL ?_
  | with_reducible refine w_lcT ?_
  | with_reducible refine w_isN ?_
  | with_reducible refine w_notN ?_
  | with_reducible refine w_asg ?_
  | with_reducible refine w_gsub ?_
  | ((with_reducible refine' w_aug ?h1 ?_); (case h1 => rfl))
  | with_reducible refine w_augS ?_
  | with_reducible refine w_ipI ?_
  | with_reducible refine w_un ?_
  | with_reducible refine w_U ?_
  | ((with_reducible refine' w_iteF ?f1 ?_); case f1 => (first | (intro h; cases h; done) | decide))
  | ((with_reducible refine' w_iteT ?f1 ?_); case f1 => rfl)
  | ((with_reducible refine' w_iteNF ?f1 ?_); case f1 => rfl)
  | ((with_reducible refine' w_iteNT ?f1 ?_); case f1 => (first | (intro h; cases h; done) | decide))
  | ((with_reducible refine' c_isi ?t1 ?k1 ?_); (case t1 => walk_at "ty"); (case k1 => walk_at "kit"))
  | ((with_reducible refine' w_eq ?e1 ?_); case e1 => rfl)
  | ((with_reducible refine' w_ne ?e1 ?_); case e1 => rfl)
  | walk_at "u1")
local macro_rules | `(tactic| walk_at "s") => `(tactic| repeat walk_at "s1")
local macro_rules | `(tactic| walk_at "mem") => `(tactic| first | with_reducible exact List.mem_cons_self .. | ((with_reducible refine' List.mem_cons_of_mem _ ?q); (case q => walk_at "mem")) | assumption | ((with_reducible refine' List.mem_append_right _ ?q); (case q => walk_at "mem")) | (exact List.mem_append_left _ (by assumption)))
local macro_rules | `(tactic| walk_at "pk") => `(tactic| first | with_reducible exact Pk.here | ((with_reducible refine' Pk.there ?q); (case q => walk_at "pk")) | ((with_reducible refine' Pk.app ?q); (case q => walk_at "pk")))
local macro_rules | `(tactic| walk_at "pkb") => `(tactic| first | with_reducible exact PkB.here | ((with_reducible refine' PkB.there ?q); (case q => walk_at "pkb")) | ((with_reducible refine' PkB.app ?q); (case q => walk_at "pkb")))
local macro_rules | `(tactic| walk_at "spl") => `(tactic| first | with_reducible exact Spl.nil | ((with_reducible refine' Spl.cons ?h ?t); (case h => walk_at "pk"); (case t => walk_at "spl")) | ((with_reducible refine' Spl.blk ?h ?t); (case h => walk_at "pkb"); (case t => walk_at "spl")))
local macro_rules | `(tactic| walk_at "sbx") => `(tactic| first | with_reducible exact Sb.refl | with_reducible exact Sb.nil | with_reducible exact Sb.left | ((with_reducible refine' Sb.cons ?h ?t); (case h => walk_at "pk"); (case t => walk_at "sbx")) | ((with_reducible refine' Sb.blk ?h ?t); (case h => walk_at "pkb"); (case t => walk_at "sbx")) | ((with_reducible refine' Sb.drop ?q); (case q => walk_at "sbx")) | ((with_reducible refine' Sb.right ?q); (case q => walk_at "sbx")))
local macro_rules | `(tactic| walk_at "hd") => `(tactic| first | assumption | exact Hd.sb (by assumption) (by walk_at "sbx"))
local macro_rules | `(tactic| walk_at "sq") => `(tactic| first
  | assumption
  | exact Hd.sqL (by assumption) (by walk_at "mem")
  | exact Hd.sqT (by assumption) (by walk_at "mem")
  | exact Hd.sqF (by assumption) (by walk_at "mem")
  | (refine .inl ?_; walk_at "sq")
  | (refine .inr ?_; walk_at "sq"))
local macro_rules | `(tactic| walk_at "at") => `(tactic| first | rfl | assumption | exact atI_nat (by assumption))
local macro_rules | `(tactic| walk_at "dn1") => `(tactic| first
  | exact Dn.int | exact Dn.str | exact Dn.non | exact Dn.bl | assumption
  | ((refine' Dn.tp ?a1 ?m1 ?l1 ?p1); (case a1 => assumption); (case m1 => walk_at "mem"); (case l1 => (simp only [List.length_cons, List.length_nil]; omega)); (case p1 => walk_at "dns"))
  | ((refine' Dn.lt ?a1 ?m1 ?l1 ?p1); (case a1 => assumption); (case m1 => walk_at "mem"); (case l1 => (simp only [List.length_cons, List.length_nil]; omega)); (case p1 => walk_at "dns")))
local macro_rules | `(tactic| walk_at "dns") => `(tactic| first | exact Paired.nil | exact Dn.ints | ((refine' Paired.cons ?a1 ?b1); (case a1 => walk_at "dn1"); (case b1 => walk_at "dns")))
local macro_rules | `(tactic| walk_at "g1") => `(tactic| first
  | ((with_reducible refine' g_ixI ?h1 ?h2 ?h3 ?_); (case h1 => assumption); (case h2 => walk_at "mem"); (case h3 => omega); intro z hz)
  | ((with_reducible refine' g_ixIT ?h1 ?h2 ?h3 ?_); (case h1 => assumption); (case h2 => walk_at "mem"); (case h3 => omega); intro z hz)
  | ((with_reducible refine' g_setI ?h1 ?h2 ?h3 ?_); (case h1 => assumption); (case h2 => walk_at "pk"); (case h3 => omega); intro H2 hh2)
  | ((with_reducible refine' w_ixL ?h1 ?h2 ?_); (case h1 => walk_at "sq"); (case h2 => walk_at "at"))
  | ((with_reducible refine' w_ixT ?h1 ?h2 ?_); (case h1 => walk_at "sq"); (case h2 => walk_at "at"))
  | ((with_reducible refine' w_ixAny ?h1 ?h2 ?_); (case h1 => walk_at "sq"); (case h2 => walk_at "at"))
  | ((with_reducible refine' c_lenA ?h1 ?_); (case h1 => walk_at "sq"))
  | ((with_reducible refine' c_isi ?t1 ?k1 ?_); (case t1 => first | exact ty_T (by walk_at "sq") | exact ty_L (by walk_at "sq")); (case k1 => walk_at "kit"))
  | ((with_reducible refine' g_lst ?h1 ?h2 ?_); (case h1 => assumption); (case h2 => walk_at "sz"); intro p H2 hh2)
  | ((with_reducible refine' g_tup ?h1 ?h2 ?_); (case h1 => assumption); (case h2 => walk_at "sz"); intro p H2 hh2)
  | ((with_reducible refine' g_dict ?h1 ?_); (case h1 => assumption); intro p H2 hh2)
  | ((with_reducible refine' g_listL ?h1 ?h2 ?_); (case h1 => assumption); (case h2 => walk_at "sq"); intro p H2 hh2)
  | ((with_reducible refine' g_listT ?h1 ?h2 ?_); (case h1 => assumption); (case h2 => walk_at "sq"); intro p H2 hh2)
  | ((with_reducible refine' g_tupL ?h1 ?h2 ?_); (case h1 => assumption); (case h2 => walk_at "sq"); intro p H2 hh2)
  | ((with_reducible refine' g_set ?h1 ?h2 ?h3 ?_); (case h1 => assumption); (case h2 => walk_at "pk"); (case h3 => first | rfl | assumption | exact Evl.ixN_nat (by first | omega | (simp only [List.length_cons, List.length_nil]; omega))); intro H2 hh2)
  | ((with_reducible refine' g_kbm ?h1 ?h2 ?_); (case h1 => assumption); (case h2 => walk_at "mem"))
  | ((with_reducible refine' g_kbm0 ?h1 ?h2 ?_); (case h1 => assumption); (case h2 => walk_at "mem"))
  | ((with_reducible refine' g_app ?h1 ?h2 ?h3 ?_); (case h1 => assumption); (case h2 => walk_at "pk"); (case h3 => walk_at "sz"); intro H2 hh2)
  | ((with_reducible refine' g_kapp ?h1 ?h2 ?h3 ?_); (case h1 => assumption); (case h2 => walk_at "pk"); (case h3 => walk_at "sz"); intro H2 hh2)
  | ((with_reducible refine' g_fld ?h1 ?h2 ?h3 ?h4 ?h5 ?_); (case h1 => assumption); (case h2 => walk_at "mem"); (case h3 => assumption); (case h4 => assumption); (case h5 => rfl))
  | ((with_reducible refine' g_sfld ?h1 ?h2 ?h3 ?h4 ?h5 ?_); (case h1 => assumption); (case h2 => walk_at "pk"); (case h3 => assumption); (case h4 => assumption); (case h5 => decide); intro H2 hh2)
  | ((with_reducible refine' g_meth ?h1 ?h2 ?h3 ?_); (case h1 => assumption); (case h2 => walk_at "mem"); (case h3 => rfl))
  | ((with_reducible refine' g_prop ?h1 ?h2 ?_); (case h1 => assumption); (case h2 => walk_at "mem"))
  | ((with_reducible refine' g_make ?h1 ?_); (case h1 => assumption); intro x H2 hh2)
  | ((with_reducible refine' g_cat ?h1 ?h2 ?h3 ?h4 ?_); (case h1 => assumption); (case h2 => walk_at "mem"); (case h3 => walk_at "mem"); (case h4 => walk_at "sz"); intro p H2 hh2)
  | ((with_reducible refine' g_inT ?h1 ?h2 ?h3 ?h4 ?h5 ?_); (case h1 => assumption); (case h2 => walk_at "mem"); (case h3 => rfl); (case h4 => rfl); (case h5 => rfl)))
local macro_rules | `(tactic| walk_at "gs") => `(tactic| repeat first | walk_at "s1" | walk_at "g1")
local macro_rules | `(tactic| walk_at "ite") => `(tactic| first
  | ((with_reducible refine' w_iteT ?h1 ?_); (case h1 => omega))
  | ((with_reducible refine' w_iteF ?h1 ?_); (case h1 => omega))
  | (with_reducible refine w_ite ?_ ?_ <;> intro hq)
  | ((with_reducible refine' w_iteNT ?h1 ?_); (case h1 => omega))
  | ((with_reducible refine' w_iteNF ?h1 ?_); (case h1 => omega))
  | (with_reducible refine w_iteN ?_ ?_ <;> intro hq))
local macro_rules | `(tactic| walk_at "go") => `(tactic| repeat' first | walk_at "s1" | walk_at "g1" | walk_at "ite")
section
variable {P : Program} {w : World} {K : PySem.W.Frag} {mg : Str → Option Value} {base : Heap} {aREG aOPS : Addr}
def isR (v : V) (lo hi : Int) : Bool := match v with
  | .int i => decide (lo ≤ i ∧ i ≤ hi)
  | _ => false
def isI (v : V) : Bool := match v with
  | .int _ => true
  | _ => false
abbrev isW (v : V) : Bool := isR v 0 65535
theorem kh_ty {H : Hp} {v : V} {t : String} (h : KH K H v t) : TyX K H v (.type t) := by
  cases h with
  | non => exact ty_non
  | bl => exact ty_bl
  | int => exact ty_int
  | str => exact ty_str
  | lst e => exact ty_L e
  | tup e => exact ty_T e
def sp_integer (K : PySem.W.Frag) : Sp := fun vs H Q _ => ∃ (v : V) (t : String), vs = [v] ∧ KH K H v t ∧ Q (.bl (isI v)) H
theorem c_integer (T : Txt K mg aREG aOPS) (d : DefAt K mg "is_integer" s_is_integer) : C8.Cal P w K mg base 1 "is_integer" (sp_integer K) [] := by
  refine mk d sc_is_integer (fun _ _ _ _ _ _ us hl => match us, hl with | [_], _ => rfl) (fun vs H Q E h => ?_) (fun f cdv A outer s H vs Q E hr h => ?_)
  · obtain ⟨v, t, rfl, _⟩ := h
    rfl
  · obtain ⟨v, t, rfl, kh, q⟩ := h
    refine ⟨_, (pss_one (ps_ret (pe_and (pe_callB call_isi (by rfl) T.b_isinstance (by decide +kernel) (pa_cons (pv 0) (pa_cons (pe_bltn (v := .ty "int") (by rfl) T.b_int (by decide +kernel) rfl) pa_nil))) (pe_one (pe_not (pe_callB call_isi (by rfl) T.b_isinstance (by decide +kernel) (pa_cons (pv 0) (pa_cons (pe_bltn (v := .ty "bool") (by rfl) T.b_bool (by decide +kernel) rfl) pa_nil)))))))), ?_⟩
    have ty := kh_ty kh
    cases kh <;> (walk_at "s"; exact q)
theorem u_integer {H : Hp} {v : V} {t : String} {Q : VK} {E : XK} (kh : KH K H v t) (q : Q (.bl (isI v)) H) : sp_integer K [v] H Q E := ⟨v, t, rfl, kh, q⟩
def sp_range (K : PySem.W.Frag) : Sp := fun vs H Q _ => ∃ (v : V) (t : String) (lo hi : Int), vs = [v, .int lo, .int hi] ∧ KH K H v t ∧ Q (.bl (isR v lo hi)) H
theorem u_range {H : Hp} {v : V} {t : String} {lo hi : Int} {Q : VK} {E : XK} (kh : KH K H v t) (q : Q (.bl (isR v lo hi)) H) : sp_range K [v, .int lo, .int hi] H Q E := ⟨v, t, lo, hi, rfl, kh, q⟩
theorem c_range (T : Txt K mg aREG aOPS) (d : DefAt K mg "is_in_range" s_is_in_range) (c_is_integer : C8.Cal P w K mg base 1 "is_integer" (sp_integer K) []) : C8.Cal P w K mg base 2 "is_in_range" (sp_range K) [] := by
  refine mk d sc_is_in_range (fun _ _ _ _ _ _ us hl => match us, hl with | [_, _, _], _ => rfl) (fun vs H Q E h => ?_) (fun f cdv A outer s H vs Q E hr h => ?_)
  · obtain ⟨v, t, lo, hi, rfl, _⟩ := h
    rfl
  · obtain ⟨v, t, lo, hi, rfl, kh, q⟩ := h
    refine ⟨_, (pss_one (ps_ret (pe_and (C8.pe_c c_is_integer hr (by first | decide | omega) rfl (pa_cons (pv 0) pa_nil)) (pe_one (pe_chain op_le op_le (pv 1) (pv 0) (pv 2)))))), ?_⟩
    walk_at "s"
    refine u_integer kh ?_
    cases kh with
    | int =>
      walk_at "s"
      show tChain (rI0 fun i j => V.bl (decide (i ≤ j))) (rI0 fun i j => V.bl (decide (i ≤ j))) (tVar 1) (tVar 0) (tVar 2) _ H _
      rename_i i
      refine ⟨_, rfl, _, rfl, _, _, rfl, rfl, _, rfl, ?_⟩
      by_cases h1 : lo ≤ i
      · rw [decide_eq_true h1]
        refine ⟨_, rfl, _, _, rfl, rfl, ?_⟩
        have e : decide (i ≤ hi) = isR (.int i) lo hi := by simp [isR, h1]
        show Q (.bl (decide (i ≤ hi))) H
        rw [e]
        exact q
      · rw [decide_eq_false h1]
        have e : false = isR (.int i) lo hi := by simp [isR, h1]
        show Q (.bl false) H
        rw [e]
        exact q
    | _ =>
      walk_at "s"
      exact q
def sp_ask (K : PySem.W.Frag) : Sp := fun vs H Q _ => ∃ (z : Str) (v : V) (t : String) (lo hi : Int), vs = [.str z, v, .int lo, .int hi] ∧ KH K H v t ∧ isR v lo hi = true ∧ Q .non H
theorem u_ask {H : Hp} {z : Str} {i lo hi : Int} {Q : VK} {E : XK} (h : lo ≤ i ∧ i ≤ hi) (q : Q .non H) : sp_ask K [.str z, .int i, .int lo, .int hi] H Q E := ⟨z, .int i, "int", lo, hi, rfl, .int, decide_eq_true h, q⟩
theorem c_ask (T : Txt K mg aREG aOPS) (d : DefAt K mg "ask_range" s_ask_range) (c_is_in_range : C8.Cal P w K mg base 2 "is_in_range" (sp_range K) []) : C8.Cal P w K mg base 3 "ask_range" (sp_ask K) [] := by
  refine mk d sc_ask_range (fun _ _ _ _ _ _ us hl => match us, hl with | [_, _, _, _], _ => rfl) (fun vs H Q E h => ?_) (fun f cdv A outer s H vs Q E hr h => ?_)
  · obtain ⟨z, v, t, lo, hi, rfl, _⟩ := h
    rfl
  · obtain ⟨z, v, t, lo, hi, rfl, kh, hb, q⟩ := h
    refine ⟨_, (pss_one (ps_if (pt_not (pt_val (C8.pe_c c_is_in_range hr (by first | decide | omega) rfl (pa_cons (pv 1) (pa_cons (pv 2) (pa_cons (pv 3) pa_nil))))))
    (pss_one ps_never)
    pss_nil)), ?_⟩
    walk_at "s"
    refine u_range kh ?_
    rw [hb]
    walk_at "s"
    exact q
def sp_word1 (K : PySem.W.Frag) : Sp := fun vs H Q _ => ∃ (v : V) (t : String), vs = [v] ∧ KH K H v t ∧ Q (.bl (isW v)) H
theorem u_isword {H : Hp} {v : V} {t : String} {Q : VK} {E : XK} (kh : KH K H v t) (q : Q (.bl (isW v)) H) : sp_word1 K [v] H Q E := ⟨v, t, rfl, kh, q⟩
theorem c_isword (T : Txt K mg aREG aOPS) (d : DefAt K mg "is_word" s_is_word) (c_is_in_range : C8.Cal P w K mg base 2 "is_in_range" (sp_range K) []) : C8.Cal P w K mg base 3 "is_word" (sp_word1 K) [] := by
  refine mk d sc_is_word (fun _ _ _ _ _ _ us hl => match us, hl with | [_], _ => rfl) (fun vs H Q E h => ?_) (fun f cdv A outer s H vs Q E hr h => ?_)
  · obtain ⟨v, t, rfl, _⟩ := h
    rfl
  · obtain ⟨v, t, rfl, kh, q⟩ := h
    refine ⟨_, (pss_one (ps_ret (C8.pe_c c_is_in_range hr (by first | decide | omega) rfl (pa_cons (pv 0) (pa_cons pe_int (pa_cons (pe_op op_sub (C8.pe_gc rfl T.g_WORDS) pe_int) pa_nil)))))), ?_⟩
    walk_at "s"
    exact u_range kh q
/-- are_words -/
def sp_askW (K : PySem.W.Frag) : Sp := fun vs H Q _ => ∃ (z : Str) (v : V) (t : String), vs = [.str z, v] ∧ KH K H v t ∧ isW v = true ∧ Q .non H
theorem u_askW {H : Hp} {z : Str} {i : Int} {Q : VK} {E : XK} (h : 0 ≤ i ∧ i ≤ 65535) (q : Q .non H) : sp_askW K [.str z, .int i] H Q E := ⟨z, .int i, "int", rfl, .int, decide_eq_true h, q⟩
theorem c_askW (T : Txt K mg aREG aOPS) (d : DefAt K mg "ask_word" s_ask_word) (c_is_word : C8.Cal P w K mg base 3 "is_word" (sp_word1 K) []) : C8.Cal P w K mg base 4 "ask_word" (sp_askW K) [] := by
  refine mk d sc_ask_word (fun _ _ _ _ _ _ us hl => match us, hl with | [_, _], _ => rfl) (fun vs H Q E h => ?_) (fun f cdv A outer s H vs Q E hr h => ?_)
  · obtain ⟨z, v, t, rfl, _⟩ := h
    rfl
  · obtain ⟨z, v, t, rfl, kh, hb, q⟩ := h
    refine ⟨_, (pss_one (ps_if (pt_not (pt_val (C8.pe_c c_is_word hr (by first | decide | omega) rfl (pa_cons (pv 1) pa_nil))))
    (pss_one ps_never)
    pss_nil)), ?_⟩
    walk_at "s"
    refine u_isword kh ?_
    rw [hb]
    walk_at "s"
    exact q
end
end K45
set_option Elab.async false
set_option linter.all false
set_option maxRecDepth 100000
set_option maxHeartbeats 4000000
namespace K45
open PySem PySem.Spec PyProof.Rows L2 Wk
local macro_rules | `(tactic| walk_at "u1") => `(tactic| fail "no more")
local macro_rules | `(tactic| walk_at "pos") => `(tactic| first | assumption | omega | decide | (simp only [Int.ofNat_eq_natCast] at *; omega))
local macro_rules | `(tactic| walk_at "sz") => `(tactic| first
  | (simp only [List.length_cons, List.length_nil]; decide)
  | exact Evl.sz_of (by omega)
  | exact Evl.sz_lt (by omega)
  | exact Evl.sz_of (by simp only [List.length_map, List.length_append, List.length_cons, List.length_nil, List.length_replicate]; omega)
  | exact Evl.sz_lt (by simp only [List.length_map, List.length_append, List.length_cons, List.length_nil, List.length_replicate]; omega))
local macro_rules | `(tactic| walk_at "cond") => `(tactic| first
  | exact Or.inr ⟨by decide, by decide⟩
  | (show (0 : Int) < _; first | decide | assumption | omega)
  | exact Or.inl ⟨by omega, by omega⟩
  | exact Or.inr ⟨by omega, by omega⟩
  | exact ⟨by decide, by decide, by decide⟩
  | exact log2_lt (by omega) (by omega)
  | exact ⟨by omega, by omega⟩)
local macro_rules | `(tactic| walk_at "ty") => `(tactic| first
  | exact ty_int | exact ty_bl | exact ty_str | exact ty_non
  | exact ty_L (by assumption) | exact ty_T (by assumption)
  | exact ty_L (SqL.of (by assumption)) | exact ty_T (SqT.of (by assumption)))
local macro_rules | `(tactic| walk_at "kit") => `(tactic| first
  | exact k_ii | exact k_ib | exact k_is | exact k_il | exact k_it
  | exact k_bb | exact k_bi | exact k_bs | exact k_bl | exact k_bt
  | exact k_ss | exact k_sb | exact k_si | exact k_sl | exact k_st
  | exact k_ll | exact k_lb | exact k_li | exact k_ls | exact k_lt
  | exact k_tt | exact k_tb | exact k_ti | exact k_ts | exact k_tl
  | exact k_nn | exact k_ni | exact k_ns | exact k_nl | exact k_nt)
local macro_rules | `(tactic| walk_at "s1") => `(tactic| first
  | with_reducible refine w_seq ?_
  | with_reducible refine w_set ?_
  | with_reducible refine w_op ?_
  | ((with_reducible refine' w_var ?h1 ?_); (case h1 => rfl))
  | with_reducible refine w_c ?_
  | with_reducible refine w_cb ?_
  | with_reducible refine w_cons ?_
  | with_reducible refine w_nil ?_
  | with_reducible refine w_I0 ?_
  | ((with_reducible refine' w_I ?c1 ?_); case c1 => walk_at "cond")
  | with_reducible refine w_ret ?_
  | with_reducible refine w_next ?_
  | with_reducible refine w_ifS ?_
  | with_reducible refine w_test ?_
  | with_reducible refine w_tB ?_
  | with_reducible refine w_k ?_
  | with_reducible refine w_eqI ?_
  | with_reducible refine w_neI ?_
  | with_reducible refine w_eqS ?_
  | with_reducible refine w_neS ?_
  | with_reducible refine w_and ?_
  | with_reducible refine w_or ?_
  | with_reducible refine w_not ?_
  | with_reducible refine w_andV ?_
  | with_reducible refine w_orV ?_
  | with_reducible refine w_notV ?_
  | with_reducible refine w_ifE ?_
  | with_reducible refine w_true ?_
  | with_reducible refine w_false ?_
  | with_reducible refine w_ntrue ?_
  | with_reducible refine w_nfalse ?_
  | with_reducible refine w_call ?_
  | with_reducible refine c_int ?_
  | with_reducible refine c_abs ?_
  | with_reducible refine c_max ?_
  | with_reducible refine c_min ?_
  | with_reducible refine w_drop ?_
  | with_reducible refine w_sfld ?_
  | with_reducible refine w_meth ?_
  | with_reducible refine w_make ?_
  | with_reducible refine w_prop ?_
  | with_reducible refine w_callK ?_
  | with_reducible refine w_callN ?_
  | with_reducible refine w_star ?_
  | with_reducible refine w_gcons ?_
  | with_reducible refine w_gname ?_
  | with_reducible refine w_gnil ?_
  | with_reducible refine w_retN ?_
  | with_reducible refine w_tup ?_
  | with_reducible refine w_lst ?_
  | with_reducible refine w_fld ?_
  | with_reducible refine w_bm ?_
  | with_reducible refine w_bm0 ?_
  | with_reducible refine w_forL ?_
  | with_reducible refine w_forT ?_
  | with_reducible refine w_forS ?_
  | with_reducible refine w_forR ?_
  | with_reducible refine w_lcR ?_
  | with_reducible refine w_lcL ?_
  | with_reducible refine w_lcT ?_
  | with_reducible refine w_isN ?_
  | with_reducible refine w_notN ?_
  | with_reducible refine w_asg ?_
  | with_reducible refine w_gsub ?_
  | ((with_reducible refine' w_aug ?h1 ?_); (case h1 => rfl))
  | with_reducible refine w_augS ?_
  | with_reducible refine w_ipI ?_
  | with_reducible refine w_un ?_
  | with_reducible refine w_U ?_
  | ((with_reducible refine' w_iteF ?f1 ?_); case f1 => (first | (intro h; cases h; done) | decide))
  | ((with_reducible refine' w_iteT ?f1 ?_); case f1 => rfl)
  | ((with_reducible refine' w_iteNF ?f1 ?_); case f1 => rfl)
  | ((with_reducible refine' w_iteNT ?f1 ?_); case f1 => (first | (intro h; cases h; done) | decide))
  | ((with_reducible refine' c_isi ?t1 ?k1 ?_); (case t1 => walk_at "ty"); (case k1 => walk_at "kit"))
  | ((with_reducible refine' w_eq ?e1 ?_); case e1 => rfl)
  | ((with_reducible refine' w_ne ?e1 ?_); case e1 => rfl)
  | walk_at "u1")
local macro_rules | `(tactic| walk_at "s") => `(tactic| repeat walk_at "s1")
local macro_rules | `(tactic| walk_at "mem") => `(tactic| first | with_reducible exact List.mem_cons_self .. | ((with_reducible refine' List.mem_cons_of_mem _ ?q); (case q => walk_at "mem")) | assumption | ((with_reducible refine' List.mem_append_right _ ?q); (case q => walk_at "mem")) | (exact List.mem_append_left _ (by assumption)))
local macro_rules | `(tactic| walk_at "pk") => `(tactic| first | with_reducible exact Pk.here | ((with_reducible refine' Pk.there ?q); (case q => walk_at "pk")) | ((with_reducible refine' Pk.app ?q); (case q => walk_at "pk")))
local macro_rules | `(tactic| walk_at "pkb") => `(tactic| first | with_reducible exact PkB.here | ((with_reducible refine' PkB.there ?q); (case q => walk_at "pkb")) | ((with_reducible refine' PkB.app ?q); (case q => walk_at "pkb")))
local macro_rules | `(tactic| walk_at "spl") => `(tactic| first | with_reducible exact Spl.nil | ((with_reducible refine' Spl.cons ?h ?t); (case h => walk_at "pk"); (case t => walk_at "spl")) | ((with_reducible refine' Spl.blk ?h ?t); (case h => walk_at "pkb"); (case t => walk_at "spl")))
local macro_rules | `(tactic| walk_at "sbx") => `(tactic| first | with_reducible exact Sb.refl | with_reducible exact Sb.nil | with_reducible exact Sb.left | ((with_reducible refine' Sb.cons ?h ?t); (case h => walk_at "pk"); (case t => walk_at "sbx")) | ((with_reducible refine' Sb.blk ?h ?t); (case h => walk_at "pkb"); (case t => walk_at "sbx")) | ((with_reducible refine' Sb.drop ?q); (case q => walk_at "sbx")) | ((with_reducible refine' Sb.right ?q); (case q => walk_at "sbx")))
local macro_rules | `(tactic| walk_at "hd") => `(tactic| first | assumption | exact Hd.sb (by assumption) (by walk_at "sbx"))
local macro_rules | `(tactic| walk_at "sq") => `(tactic| first
  | assumption
  | exact Hd.sqL (by assumption) (by walk_at "mem")
  | exact Hd.sqT (by assumption) (by walk_at "mem")
  | exact Hd.sqF (by assumption) (by walk_at "mem")
  | (refine .inl ?_; walk_at "sq")
  | (refine .inr ?_; walk_at "sq"))
local macro_rules | `(tactic| walk_at "at") => `(tactic| first | rfl | assumption | exact atI_nat (by assumption))
local macro_rules | `(tactic| walk_at "dn1") => `(tactic| first
  | exact Dn.int | exact Dn.str | exact Dn.non | exact Dn.bl | assumption
  | ((refine' Dn.tp ?a1 ?m1 ?l1 ?p1); (case a1 => assumption); (case m1 => walk_at "mem"); (case l1 => (simp only [List.length_cons, List.length_nil]; omega)); (case p1 => walk_at "dns"))
  | ((refine' Dn.lt ?a1 ?m1 ?l1 ?p1); (case a1 => assumption); (case m1 => walk_at "mem"); (case l1 => (simp only [List.length_cons, List.length_nil]; omega)); (case p1 => walk_at "dns")))
local macro_rules | `(tactic| walk_at "dns") => `(tactic| first | exact Paired.nil | exact Dn.ints | ((refine' Paired.cons ?a1 ?b1); (case a1 => walk_at "dn1"); (case b1 => walk_at "dns")))
local macro_rules | `(tactic| walk_at "g1") => `(tactic| first
  | ((with_reducible refine' g_ixI ?h1 ?h2 ?h3 ?_); (case h1 => assumption); (case h2 => walk_at "mem"); (case h3 => omega); intro z hz)
  | ((with_reducible refine' g_ixIT ?h1 ?h2 ?h3 ?_); (case h1 => assumption); (case h2 => walk_at "mem"); (case h3 => omega); intro z hz)
  | ((with_reducible refine' g_setI ?h1 ?h2 ?h3 ?_); (case h1 => assumption); (case h2 => walk_at "pk"); (case h3 => omega); intro H2 hh2)
  | ((with_reducible refine' w_ixL ?h1 ?h2 ?_); (case h1 => walk_at "sq"); (case h2 => walk_at "at"))
  | ((with_reducible refine' w_ixT ?h1 ?h2 ?_); (case h1 => walk_at "sq"); (case h2 => walk_at "at"))
  | ((with_reducible refine' w_ixAny ?h1 ?h2 ?_); (case h1 => walk_at "sq"); (case h2 => walk_at "at"))
  | ((with_reducible refine' c_lenA ?h1 ?_); (case h1 => walk_at "sq"))
  | ((with_reducible refine' c_isi ?t1 ?k1 ?_); (case t1 => first | exact ty_T (by walk_at "sq") | exact ty_L (by walk_at "sq")); (case k1 => walk_at "kit"))
  | ((with_reducible refine' g_lst ?h1 ?h2 ?_); (case h1 => assumption); (case h2 => walk_at "sz"); intro p H2 hh2)
  | ((with_reducible refine' g_tup ?h1 ?h2 ?_); (case h1 => assumption); (case h2 => walk_at "sz"); intro p H2 hh2)
  | ((with_reducible refine' g_dict ?h1 ?_); (case h1 => assumption); intro p H2 hh2)
  | ((with_reducible refine' g_listL ?h1 ?h2 ?_); (case h1 => assumption); (case h2 => walk_at "sq"); intro p H2 hh2)
  | ((with_reducible refine' g_listT ?h1 ?h2 ?_); (case h1 => assumption); (case h2 => walk_at "sq"); intro p H2 hh2)
  | ((with_reducible refine' g_tupL ?h1 ?h2 ?_); (case h1 => assumption); (case h2 => walk_at "sq"); intro p H2 hh2)
  | ((with_reducible refine' g_set ?h1 ?h2 ?h3 ?_); (case h1 => assumption); (case h2 => walk_at "pk"); (case h3 => first | rfl | assumption | exact Evl.ixN_nat (by first | omega | (simp only [List.length_cons, List.length_nil]; omega))); intro H2 hh2)
  | ((with_reducible refine' g_kbm ?h1 ?h2 ?_); (case h1 => assumption); (case h2 => walk_at "mem"))
  | ((with_reducible refine' g_kbm0 ?h1 ?h2 ?_); (case h1 => assumption); (case h2 => walk_at "mem"))
  | ((with_reducible refine' g_app ?h1 ?h2 ?h3 ?_); (case h1 => assumption); (case h2 => walk_at "pk"); (case h3 => walk_at "sz"); intro H2 hh2)
  | ((with_reducible refine' g_kapp ?h1 ?h2 ?h3 ?_); (case h1 => assumption); (case h2 => walk_at "pk"); (case h3 => walk_at "sz"); intro H2 hh2)
  | ((with_reducible refine' g_fld ?h1 ?h2 ?h3 ?h4 ?h5 ?_); (case h1 => assumption); (case h2 => walk_at "mem"); (case h3 => assumption); (case h4 => assumption); (case h5 => rfl))
  | ((with_reducible refine' g_sfld ?h1 ?h2 ?h3 ?h4 ?h5 ?_); (case h1 => assumption); (case h2 => walk_at "pk"); (case h3 => assumption); (case h4 => assumption); (case h5 => decide); intro H2 hh2)
  | ((with_reducible refine' g_meth ?h1 ?h2 ?h3 ?_); (case h1 => assumption); (case h2 => walk_at "mem"); (case h3 => rfl))
  | ((with_reducible refine' g_prop ?h1 ?h2 ?_); (case h1 => assumption); (case h2 => walk_at "mem"))
  | ((with_reducible refine' g_make ?h1 ?_); (case h1 => assumption); intro x H2 hh2)
  | ((with_reducible refine' g_cat ?h1 ?h2 ?h3 ?h4 ?_); (case h1 => assumption); (case h2 => walk_at "mem"); (case h3 => walk_at "mem"); (case h4 => walk_at "sz"); intro p H2 hh2)
  | ((with_reducible refine' g_inT ?h1 ?h2 ?h3 ?h4 ?h5 ?_); (case h1 => assumption); (case h2 => walk_at "mem"); (case h3 => rfl); (case h4 => rfl); (case h5 => rfl)))
local macro_rules | `(tactic| walk_at "gs") => `(tactic| repeat first | walk_at "s1" | walk_at "g1")
local macro_rules | `(tactic| walk_at "ite") => `(tactic| first
  | ((with_reducible refine' w_iteT ?h1 ?_); (case h1 => omega))
  | ((with_reducible refine' w_iteF ?h1 ?_); (case h1 => omega))
  | (with_reducible refine w_ite ?_ ?_ <;> intro hq)
  | ((with_reducible refine' w_iteNT ?h1 ?_); (case h1 => omega))
  | ((with_reducible refine' w_iteNF ?h1 ?_); (case h1 => omega))
  | (with_reducible refine w_iteN ?_ ?_ <;> intro hq))
local macro_rules | `(tactic| walk_at "go") => `(tactic| repeat' first | walk_at "s1" | walk_at "g1" | walk_at "ite")
section
variable {P : Program} {w : World} {K : PySem.W.Frag} {mg : Str → Option Value} {base : Heap} {aREG aOPS : Addr}
/-! ### the draws, over the ledger -/
def stoC (st c : Addr) : Cell := (st, fun o => ∃ i b t z : Int, o = .lst [.ref c, .int i, .int b, .int t, .int z] ∧ 0 ≤ i ∧ 0 ≤ b ∧ 0 ≤ z ∧ z < 2147483647)
def scrC (c : Addr) : Cell := (c, fun o => ∃ ns : List Int, o = .lst (ns.map V.int))
section
variable {st c : Addr} {H H' : Hp} {L R : List Cell} {Q : VK} {E : XK}
theorem Hd.sto (h : Hd H L) (m1 : stoC st c ∈ L) (m2 : scrC c ∈ L) : StoreAt H st c := by
  obtain ⟨o, e, i, b, t, z, q, r⟩ := h.at_ _ m1
  obtain ⟨u, e2, ns, q2⟩ := h.at_ _ m2
  subst q; subst q2
  exact ⟨ns, i, b, t, z, e, e2, r⟩
theorem Hd.ofSto (S : StoreAt H st c) : Hd H [stoC st c, scrC c] := by
  have ne := S.ne
  obtain ⟨ns, i, b, t, z, e1, e2, r⟩ := S
  exact Hd.two (c := stoC st c) (d := scrC c) e1 ⟨i, b, t, z, rfl, r⟩ e2 ⟨ns, rfl⟩ (Ne.symm ne)
theorem Hd.st0 (h : Hd H (stoC st c :: scrC c :: R)) : StoreAt H st c := Hd.sto h (List.mem_cons_self ..) (List.mem_cons_of_mem _ (List.mem_cons_self ..))
theorem Hd.drawn (h : Hd H (stoC st c :: scrC c :: R)) (S : StoreAt H' st c) (u : Upt [st] H H') : Hd H' (stoC st c :: scrC c :: R) :=
  Hd.put (A := [stoC st c, scrC c]) (B := [stoC st c, scrC c]) h u (fun a ha => by rw [List.mem_singleton.mp ha]; exact List.mem_cons_self ..) (Hd.ofSto S) fun c hc => .inl (List.mem_map_of_mem hc)
theorem g_store {a : Addr} {ns : List Int} {z : Int} (hh : Hd H L) (h : SqL K H a (ns.map V.int)) (hl : ns.length ≤ 63) (h0 : 0 ≤ z) (h1 : z ≤ 200000) (q : ∀ st c H', Hd H' (stoC st c :: scrC c :: L) → Q (.ref st) H') : sp_store K [.ref a, .int z] H Q E :=
  u_store h hl h0 h1 fun st c H' n1 n2 S u => q st c H' (Hd.put (A := []) (B := [stoC st c, scrC c]) (S := []) hh u (by simp) (Hd.ofSto S) fun x hx => by
    rcases List.mem_cons.mp hx with rfl | hx
    · exact .inr n1
    · rw [List.mem_singleton.mp hx]; exact .inr n2)
theorem g_take {m : Int} (hh : Hd H L) (s : Spl L [stoC st c, scrC c] R) (hm : m ≤ 4611686018427387904) (q : ∀ (k : Nat) H', ((k : Int) < m ∨ k = 0) → Hd H' (stoC st c :: scrC c :: R) → Q (.int k) H') : sp_take [.ref st, .int m] H Q E :=
  have h := hh.spl s
  u_take (Hd.st0 h) hm fun k H' hk S u => by
    obtain ⟨j, rfl⟩ := Int.eq_ofNat_of_zero_le hk.1
    exact q j H' (by have := hk.2; omega) (Hd.drawn h S u)
theorem g_take1 {m : Int} (hh : Hd H L) (s : Spl L [stoC st c, scrC c] R) (hm : 0 < m) (hm2 : m ≤ 4611686018427387904) (q : ∀ (k : Nat) H', (k : Int) < m → Hd H' (stoC st c :: scrC c :: R) → Q (.int k) H') : sp_take [.ref st, .int m] H Q E :=
  g_take hh s hm2 fun k H' h0 hh' => q k H' (by omega) hh'
theorem g_pick {r : Addr} {xs : List V} (hh : Hd H L) (s : Spl L [stoC st c, scrC c] R) (m : lstC r xs ∈ R) (h0 : 0 < xs.length) (h1 : xs.length ≤ 100000) (q : ∀ v H', v ∈ xs → Hd H' (stoC st c :: scrC c :: R) → Q v H') : sp_pick K [.ref st, .ref r] H Q E :=
  have h := hh.spl s
  u_pick (Hd.st0 h) (h.sqL (List.mem_cons_of_mem _ (List.mem_cons_of_mem _ m))) (h.ne (c := stoC st c) (d := lstC r xs) (List.mem_cons_of_mem _ m)) h0 h1 fun v H' hv S u => q v H' hv (Hd.drawn h S u)
theorem g_between {lo hi : Int} (hh : Hd H L) (s : Spl L [stoC st c, scrC c] R) (h0 : lo ≤ hi) (h1 : hi - lo < 4611686018427387904) (q : ∀ k H', lo ≤ k → k ≤ hi → Hd H' (stoC st c :: scrC c :: R) → Q (.int k) H') : sp_between [.ref st, .int lo, .int hi] H Q E :=
  have h := hh.spl s
  u_between (Hd.st0 h) h0 h1 fun k H' hk S u => q k H' hk.1 hk.2 (Hd.drawn h S u)
theorem g_betweenN {lo hi : Int} (hh : Hd H L) (s : Spl L [stoC st c, scrC c] R) (hn : 0 ≤ lo) (h0 : lo ≤ hi) (h1 : hi - lo < 4611686018427387904) (q : ∀ (k : Nat) H', lo ≤ k → (k : Int) ≤ hi → Hd H' (stoC st c :: scrC c :: R) → Q (.int k) H') : sp_between [.ref st, .int lo, .int hi] H Q E :=
  g_between hh s h0 h1 fun k H' a b hh' => by
    obtain ⟨j, rfl⟩ := Int.eq_ofNat_of_zero_le (show 0 ≤ k by omega)
    exact q j H' a b hh'
theorem g_size {m : Int} (hh : Hd H L) (s : Spl L [stoC st c, scrC c] R) (h0 : 0 ≤ m) (h1 : m ≤ 1000000) (q : ∀ (k : Nat) H', (k : Int) ≤ m → Hd H' (stoC st c :: scrC c :: R) → Q (.int k) H') : sp_size [.ref st, .int m] H Q E :=
  have h := hh.spl s
  u_size (Hd.st0 h) h0 h1 fun k H' hk S u => by
    obtain ⟨j, rfl⟩ := Int.eq_ofNat_of_zero_le hk.1
    exact q j H' hk.2 (Hd.drawn h S u)
theorem g_word (hh : Hd H L) (s : Spl L [stoC st c, scrC c] R) (q : ∀ (k : Nat) H', k ≤ 65535 → Hd H' (stoC st c :: scrC c :: R) → Q (.int k) H') : sp_word [.ref st] H Q E :=
  have h := hh.spl s
  u_word (Hd.st0 h) fun k H' hk S u => by
    obtain ⟨j, rfl⟩ := Int.eq_ofNat_of_zero_le hk.1
    exact q j H' (by omega) (Hd.drawn h S u)
theorem g_alike {n : Nat} {v1 v2 : V} {d : PyData} (h1 : Dn K [] H n v1 d) (h2 : Dn K [] H n v2 d) (q : Q (.bl true) H) : sp_alike K (n + 1) [v1, v2] H Q E := ⟨v1, v2, d, rfl, ⟨h1, h2⟩, q⟩
end
theorem rep_ints {k : Int} : ∀ n : Nat, (List.replicate n [V.int k]).flatten = (List.replicate n k).map V.int
  | 0 => rfl
  | n + 1 => by rw [List.replicate_succ, List.flatten_cons, rep_ints n, List.replicate_succ, List.map_cons]; rfl
end
end K45
set_option Elab.async false
set_option linter.all false
set_option maxRecDepth 100000
set_option maxHeartbeats 4000000
namespace K45
open PySem PySem.Spec PyProof.Rows L2 Wk
local macro_rules | `(tactic| walk_at "u1") => `(tactic| fail "no more")
local macro_rules | `(tactic| walk_at "pos") => `(tactic| first | assumption | omega | decide | (simp only [Int.ofNat_eq_natCast] at *; omega))
local macro_rules | `(tactic| walk_at "sz") => `(tactic| first
  | (simp only [List.length_cons, List.length_nil]; decide)
  | exact Evl.sz_of (by omega)
  | exact Evl.sz_lt (by omega)
  | exact Evl.sz_of (by simp only [List.length_map, List.length_append, List.length_cons, List.length_nil, List.length_replicate]; omega)
  | exact Evl.sz_lt (by simp only [List.length_map, List.length_append, List.length_cons, List.length_nil, List.length_replicate]; omega))
local macro_rules | `(tactic| walk_at "cond") => `(tactic| first
  | exact Or.inr ⟨by decide, by decide⟩
  | (show (0 : Int) < _; first | decide | assumption | omega)
  | exact Or.inl ⟨by omega, by omega⟩
  | exact Or.inr ⟨by omega, by omega⟩
  | exact ⟨by decide, by decide, by decide⟩
  | exact log2_lt (by omega) (by omega)
  | exact ⟨by omega, by omega⟩)
local macro_rules | `(tactic| walk_at "ty") => `(tactic| first
  | exact ty_int | exact ty_bl | exact ty_str | exact ty_non
  | exact ty_L (by assumption) | exact ty_T (by assumption)
  | exact ty_L (SqL.of (by assumption)) | exact ty_T (SqT.of (by assumption)))
local macro_rules | `(tactic| walk_at "kit") => `(tactic| first
  | exact k_ii | exact k_ib | exact k_is | exact k_il | exact k_it
  | exact k_bb | exact k_bi | exact k_bs | exact k_bl | exact k_bt
  | exact k_ss | exact k_sb | exact k_si | exact k_sl | exact k_st
  | exact k_ll | exact k_lb | exact k_li | exact k_ls | exact k_lt
  | exact k_tt | exact k_tb | exact k_ti | exact k_ts | exact k_tl
  | exact k_nn | exact k_ni | exact k_ns | exact k_nl | exact k_nt)
local macro_rules | `(tactic| walk_at "s1") => `(tactic| first
  | with_reducible refine w_seq ?_
  | with_reducible refine w_set ?_
  | with_reducible refine w_op ?_
  | ((with_reducible refine' w_var ?h1 ?_); (case h1 => rfl))
  | with_reducible refine w_c ?_
  | with_reducible refine w_cb ?_
  | with_reducible refine w_cons ?_
  | with_reducible refine w_nil ?_
  | with_reducible refine w_I0 ?_
  | ((with_reducible refine' w_I ?c1 ?_); case c1 => walk_at "cond")
  | with_reducible refine w_ret ?_
  | with_reducible refine w_next ?_
  | with_reducible refine w_ifS ?_
  | with_reducible refine w_test ?_
  | with_reducible refine w_tB ?_
  | with_reducible refine w_k ?_
  | with_reducible refine w_eqI ?_
  | with_reducible refine w_neI ?_
  | with_reducible refine w_eqS ?_
  | with_reducible refine w_neS ?_
  | with_reducible refine w_and ?_
  | with_reducible refine w_or ?_
  | with_reducible refine w_not ?_
  | with_reducible refine w_andV ?_
  | with_reducible refine w_orV ?_
  | with_reducible refine w_notV ?_
  | with_reducible refine w_ifE ?_
  | with_reducible refine w_true ?_
  | with_reducible refine w_false ?_
  | with_reducible refine w_ntrue ?_
  | with_reducible refine w_nfalse ?_
  | with_reducible refine w_call ?_
  | with_reducible refine c_int ?_
  | with_reducible refine c_abs ?_
  | with_reducible refine c_max ?_
  | with_reducible refine c_min ?_
  | with_reducible refine w_drop ?_
  | with_reducible refine w_sfld ?_
  | with_reducible refine w_meth ?_
  | with_reducible refine w_make ?_
  | with_reducible refine w_prop ?_
  | with_reducible refine w_callK ?_
  | with_reducible refine w_callN ?_
  | with_reducible refine w_star ?_
  | with_reducible refine w_gcons ?_
  | with_reducible refine w_gname ?_
  | with_reducible refine w_gnil ?_
  | with_reducible refine w_retN ?_
  | with_reducible refine w_tup ?_
  | with_reducible refine w_lst ?_
  | with_reducible refine w_fld ?_
  | with_reducible refine w_bm ?_
  | with_reducible refine w_bm0 ?_
  | with_reducible refine w_forL ?_
  | with_reducible refine w_forT ?_
  | with_reducible refine w_forS ?_
  | with_reducible refine w_forR ?_
  | with_reducible refine w_lcR ?_
  | with_reducible refine w_lcL ?_
  | with_reducible refine w_lcT ?_
  | with_reducible refine w_isN ?_
  | with_reducible refine w_notN ?_
  | with_reducible refine w_asg ?_
  | with_reducible refine w_gsub ?_
  | ((with_reducible refine' w_aug ?h1 ?_); (case h1 => rfl))
  | with_reducible refine w_augS ?_
  | with_reducible refine w_ipI ?_
  | with_reducible refine w_un ?_
  | with_reducible refine w_U ?_
  | ((with_reducible refine' w_iteF ?f1 ?_); case f1 => (first | (intro h; cases h; done) | decide))
  | ((with_reducible refine' w_iteT ?f1 ?_); case f1 => rfl)
  | ((with_reducible refine' w_iteNF ?f1 ?_); case f1 => rfl)
  | ((with_reducible refine' w_iteNT ?f1 ?_); case f1 => (first | (intro h; cases h; done) | decide))
  | ((with_reducible refine' c_isi ?t1 ?k1 ?_); (case t1 => walk_at "ty"); (case k1 => walk_at "kit"))
  | ((with_reducible refine' w_eq ?e1 ?_); case e1 => rfl)
  | ((with_reducible refine' w_ne ?e1 ?_); case e1 => rfl)
  | walk_at "u1")
local macro_rules | `(tactic| walk_at "s") => `(tactic| repeat walk_at "s1")
local macro_rules | `(tactic| walk_at "mem") => `(tactic| first | with_reducible exact List.mem_cons_self .. | ((with_reducible refine' List.mem_cons_of_mem _ ?q); (case q => walk_at "mem")) | assumption | ((with_reducible refine' List.mem_append_right _ ?q); (case q => walk_at "mem")) | (exact List.mem_append_left _ (by assumption)))
local macro_rules | `(tactic| walk_at "pk") => `(tactic| first | with_reducible exact Pk.here | ((with_reducible refine' Pk.there ?q); (case q => walk_at "pk")) | ((with_reducible refine' Pk.app ?q); (case q => walk_at "pk")))
local macro_rules | `(tactic| walk_at "pkb") => `(tactic| first | with_reducible exact PkB.here | ((with_reducible refine' PkB.there ?q); (case q => walk_at "pkb")) | ((with_reducible refine' PkB.app ?q); (case q => walk_at "pkb")))
local macro_rules | `(tactic| walk_at "spl") => `(tactic| first | with_reducible exact Spl.nil | ((with_reducible refine' Spl.cons ?h ?t); (case h => walk_at "pk"); (case t => walk_at "spl")) | ((with_reducible refine' Spl.blk ?h ?t); (case h => walk_at "pkb"); (case t => walk_at "spl")))
local macro_rules | `(tactic| walk_at "sbx") => `(tactic| first | with_reducible exact Sb.refl | with_reducible exact Sb.nil | with_reducible exact Sb.left | ((with_reducible refine' Sb.cons ?h ?t); (case h => walk_at "pk"); (case t => walk_at "sbx")) | ((with_reducible refine' Sb.blk ?h ?t); (case h => walk_at "pkb"); (case t => walk_at "sbx")) | ((with_reducible refine' Sb.drop ?q); (case q => walk_at "sbx")) | ((with_reducible refine' Sb.right ?q); (case q => walk_at "sbx")))
local macro_rules | `(tactic| walk_at "hd") => `(tactic| first | assumption | exact Hd.sb (by assumption) (by walk_at "sbx"))
local macro_rules | `(tactic| walk_at "sq") => `(tactic| first
  | assumption
  | exact Hd.sqL (by assumption) (by walk_at "mem")
  | exact Hd.sqT (by assumption) (by walk_at "mem")
  | exact Hd.sqF (by assumption) (by walk_at "mem")
  | (refine .inl ?_; walk_at "sq")
  | (refine .inr ?_; walk_at "sq"))
local macro_rules | `(tactic| walk_at "at") => `(tactic| first | rfl | assumption | exact atI_nat (by assumption))
local macro_rules | `(tactic| walk_at "dn1") => `(tactic| first
  | exact Dn.int | exact Dn.str | exact Dn.non | exact Dn.bl | assumption
  | ((refine' Dn.tp ?a1 ?m1 ?l1 ?p1); (case a1 => assumption); (case m1 => walk_at "mem"); (case l1 => (simp only [List.length_cons, List.length_nil]; omega)); (case p1 => walk_at "dns"))
  | ((refine' Dn.lt ?a1 ?m1 ?l1 ?p1); (case a1 => assumption); (case m1 => walk_at "mem"); (case l1 => (simp only [List.length_cons, List.length_nil]; omega)); (case p1 => walk_at "dns")))
local macro_rules | `(tactic| walk_at "dns") => `(tactic| first | exact Paired.nil | exact Dn.ints | ((refine' Paired.cons ?a1 ?b1); (case a1 => walk_at "dn1"); (case b1 => walk_at "dns")))
local macro_rules | `(tactic| walk_at "g1") => `(tactic| first
  | ((with_reducible refine' g_ixI ?h1 ?h2 ?h3 ?_); (case h1 => assumption); (case h2 => walk_at "mem"); (case h3 => omega); intro z hz)
  | ((with_reducible refine' g_ixIT ?h1 ?h2 ?h3 ?_); (case h1 => assumption); (case h2 => walk_at "mem"); (case h3 => omega); intro z hz)
  | ((with_reducible refine' g_setI ?h1 ?h2 ?h3 ?_); (case h1 => assumption); (case h2 => walk_at "pk"); (case h3 => omega); intro H2 hh2)
  | ((with_reducible refine' w_ixL ?h1 ?h2 ?_); (case h1 => walk_at "sq"); (case h2 => walk_at "at"))
  | ((with_reducible refine' w_ixT ?h1 ?h2 ?_); (case h1 => walk_at "sq"); (case h2 => walk_at "at"))
  | ((with_reducible refine' w_ixAny ?h1 ?h2 ?_); (case h1 => walk_at "sq"); (case h2 => walk_at "at"))
  | ((with_reducible refine' c_lenA ?h1 ?_); (case h1 => walk_at "sq"))
  | ((with_reducible refine' c_isi ?t1 ?k1 ?_); (case t1 => first | exact ty_T (by walk_at "sq") | exact ty_L (by walk_at "sq")); (case k1 => walk_at "kit"))
  | ((with_reducible refine' g_lst ?h1 ?h2 ?_); (case h1 => assumption); (case h2 => walk_at "sz"); intro p H2 hh2)
  | ((with_reducible refine' g_tup ?h1 ?h2 ?_); (case h1 => assumption); (case h2 => walk_at "sz"); intro p H2 hh2)
  | ((with_reducible refine' g_dict ?h1 ?_); (case h1 => assumption); intro p H2 hh2)
  | ((with_reducible refine' g_listL ?h1 ?h2 ?_); (case h1 => assumption); (case h2 => walk_at "sq"); intro p H2 hh2)
  | ((with_reducible refine' g_listT ?h1 ?h2 ?_); (case h1 => assumption); (case h2 => walk_at "sq"); intro p H2 hh2)
  | ((with_reducible refine' g_tupL ?h1 ?h2 ?_); (case h1 => assumption); (case h2 => walk_at "sq"); intro p H2 hh2)
  | ((with_reducible refine' g_set ?h1 ?h2 ?h3 ?_); (case h1 => assumption); (case h2 => walk_at "pk"); (case h3 => first | rfl | assumption | exact Evl.ixN_nat (by first | omega | (simp only [List.length_cons, List.length_nil]; omega))); intro H2 hh2)
  | ((with_reducible refine' g_kbm ?h1 ?h2 ?_); (case h1 => assumption); (case h2 => walk_at "mem"))
  | ((with_reducible refine' g_kbm0 ?h1 ?h2 ?_); (case h1 => assumption); (case h2 => walk_at "mem"))
  | ((with_reducible refine' g_app ?h1 ?h2 ?h3 ?_); (case h1 => assumption); (case h2 => walk_at "pk"); (case h3 => walk_at "sz"); intro H2 hh2)
  | ((with_reducible refine' g_kapp ?h1 ?h2 ?h3 ?_); (case h1 => assumption); (case h2 => walk_at "pk"); (case h3 => walk_at "sz"); intro H2 hh2)
  | ((with_reducible refine' g_fld ?h1 ?h2 ?h3 ?h4 ?h5 ?_); (case h1 => assumption); (case h2 => walk_at "mem"); (case h3 => assumption); (case h4 => assumption); (case h5 => rfl))
  | ((with_reducible refine' g_sfld ?h1 ?h2 ?h3 ?h4 ?h5 ?_); (case h1 => assumption); (case h2 => walk_at "pk"); (case h3 => assumption); (case h4 => assumption); (case h5 => decide); intro H2 hh2)
  | ((with_reducible refine' g_meth ?h1 ?h2 ?h3 ?_); (case h1 => assumption); (case h2 => walk_at "mem"); (case h3 => rfl))
  | ((with_reducible refine' g_prop ?h1 ?h2 ?_); (case h1 => assumption); (case h2 => walk_at "mem"))
  | ((with_reducible refine' g_make ?h1 ?_); (case h1 => assumption); intro x H2 hh2)
  | ((with_reducible refine' g_cat ?h1 ?h2 ?h3 ?h4 ?_); (case h1 => assumption); (case h2 => walk_at "mem"); (case h3 => walk_at "mem"); (case h4 => walk_at "sz"); intro p H2 hh2)
  | ((with_reducible refine' g_inT ?h1 ?h2 ?h3 ?h4 ?h5 ?_); (case h1 => assumption); (case h2 => walk_at "mem"); (case h3 => rfl); (case h4 => rfl); (case h5 => rfl)))
local macro_rules | `(tactic| walk_at "gs") => `(tactic| repeat first | walk_at "s1" | walk_at "g1")
local macro_rules | `(tactic| walk_at "ite") => `(tactic| first
  | ((with_reducible refine' w_iteT ?h1 ?_); (case h1 => omega))
  | ((with_reducible refine' w_iteF ?h1 ?_); (case h1 => omega))
  | (with_reducible refine w_ite ?_ ?_ <;> intro hq)
  | ((with_reducible refine' w_iteNT ?h1 ?_); (case h1 => omega))
  | ((with_reducible refine' w_iteNF ?h1 ?_); (case h1 => omega))
  | (with_reducible refine w_iteN ?_ ?_ <;> intro hq))
local macro_rules | `(tactic| walk_at "go") => `(tactic| repeat' first | walk_at "s1" | walk_at "g1" | walk_at "ite")
local macro_rules | `(tactic| walk_at "g1") => `(tactic| first
  | ((with_reducible refine' g_take1 ?h1 ?h2 ?h3 ?h4 ?_); (case h1 => assumption); (case h2 => walk_at "spl"); (case h3 => omega); (case h4 => omega); intro k H2 hk1 hh2)
  | ((with_reducible refine' g_take ?h1 ?h2 ?h4 ?_); (case h1 => assumption); (case h2 => walk_at "spl"); (case h4 => omega); intro k H2 hk1 hh2)
  | ((with_reducible refine' g_betweenN ?h1 ?h2 ?h5 ?h3 ?h4 ?_); (case h1 => assumption); (case h2 => walk_at "spl"); (case h5 => omega); (case h3 => omega); (case h4 => omega); intro k H2 hk1 hk2 hh2)
  | ((with_reducible refine' g_between ?h1 ?h2 ?h3 ?h4 ?_); (case h1 => assumption); (case h2 => walk_at "spl"); (case h3 => omega); (case h4 => omega); intro k H2 hk1 hk2 hh2)
  | ((with_reducible refine' g_size ?h1 ?h2 ?h3 ?h4 ?_); (case h1 => assumption); (case h2 => walk_at "spl"); (case h3 => omega); (case h4 => omega); intro k H2 hk1 hh2)
  | ((with_reducible refine' g_word ?h1 ?h2 ?_); (case h1 => assumption); (case h2 => walk_at "spl"); intro k H2 hk1 hh2))
section
variable {P : Program} {w : World} {K : PySem.W.Frag} {mg : Str → Option Value} {base : Heap} {aREG aOPS : Addr}
/-! ### parts of lists -/
theorem cut_hi {xs : List V} {n : Nat} : cutV xs none (some (n : Int)) = xs.take n := by
  unfold cutV
  rw [show HT.sIx xs.length 0 none = 0 from rfl, List.drop_zero, Nat.sub_zero]
  have e : HT.sIx xs.length xs.length (some (n : Int)) = min n xs.length := by
    show (if (n : Int) < 0 then ((n : Int) + (xs.length : Int)).toNat else min ((n : Int)).toNat xs.length) = min n xs.length
    rw [if_neg (by omega), Int.toNat_natCast]
  rw [e]
  exact List.take_eq_take_min.symm
theorem cut_lo {xs : List V} {n : Nat} : cutV xs (some (n : Int)) none = xs.drop n := by
  unfold cutV
  have e : HT.sIx xs.length 0 (some (n : Int)) = min n xs.length := by
    show (if (n : Int) < 0 then ((n : Int) + (xs.length : Int)).toNat else min ((n : Int)).toNat xs.length) = min n xs.length
    rw [if_neg (by omega), Int.toNat_natCast]
  rw [e, show HT.sIx xs.length xs.length none = xs.length from rfl]
  by_cases h : n ≤ xs.length
  · rw [Nat.min_eq_left h, List.take_of_length_le (by rw [List.length_drop]; exact Nat.le_refl _)]
  · rw [Nat.min_eq_right (by omega), Nat.sub_self, List.take_zero, List.drop_eq_nil_of_le (by omega)]
section
variable {K : PySem.W.Frag} {σ : L2.St} {H : Hp} {Q : VK} {L : List Cell} {a : Addr} {xs : List V} {n : Nat} {r : V → Option Int → Option Int → Hp → VK → Prop} {te t : TE} {tl th : TO} {i : Int} {QO : Option Int → Hp → Prop} {QI : Int → Prop}
theorem w_sl (h : te σ H fun x H1 => tl σ H1 fun l H2 => th σ H2 fun u H3 => r x l u H3 Q) : tSl r te tl th σ H Q := h
theorem w_part (h : t σ H fun x H1 => ∃ i, x = .int i ∧ QO (some i) H1) : tPart t σ H QO := h
theorem w_noPart (h : QO none H) : tNoPart σ H QO := h
theorem w_exI (h : QI i) : ∃ j, V.int i = .int j ∧ QI j := ⟨i, rfl, h⟩
theorem g_slHi (hh : Hd H L) (h : SqL K H a xs) (q : ∀ p H2, Hd H2 (lstC p (xs.take n) :: L) → Q (.ref p) H2) : rSlL K (.ref a) none (some (n : Int)) H Q :=
  ⟨a, xs, rfl, h, fun p hp => q p _ (hh.newL (cut_hi (xs := xs) (n := n) ▸ New.of hp))⟩
theorem g_slLo (hh : Hd H L) (h : SqL K H a xs) (q : ∀ p H2, Hd H2 (lstC p (xs.drop n) :: L) → Q (.ref p) H2) : rSlL K (.ref a) (some (n : Int)) none H Q :=
  ⟨a, xs, rfl, h, fun p hp => q p _ (hh.newL (cut_lo (xs := xs) (n := n) ▸ New.of hp))⟩
end
end
end K45
set_option Elab.async false
set_option linter.all false
set_option maxRecDepth 100000
set_option maxHeartbeats 4000000
namespace K45
open PySem PySem.Spec PyProof.Rows L2 Wk
local macro_rules | `(tactic| walk_at "u1") => `(tactic| fail "no more")
local macro_rules | `(tactic| walk_at "pos") => `(tactic| first | assumption | omega | decide | (simp only [Int.ofNat_eq_natCast] at *; omega))
local macro_rules | `(tactic| walk_at "sz") => `(tactic| first
  | (simp only [List.length_cons, List.length_nil]; decide)
  | exact Evl.sz_of (by omega)
  | exact Evl.sz_lt (by omega)
  | exact Evl.sz_of (by simp only [List.length_map, List.length_append, List.length_cons, List.length_nil, List.length_replicate]; omega)
  | exact Evl.sz_lt (by simp only [List.length_map, List.length_append, List.length_cons, List.length_nil, List.length_replicate]; omega))
local macro_rules | `(tactic| walk_at "cond") => `(tactic| first
  | exact Or.inr ⟨by decide, by decide⟩
  | (show (0 : Int) < _; first | decide | assumption | omega)
  | exact Or.inl ⟨by omega, by omega⟩
  | exact Or.inr ⟨by omega, by omega⟩
  | exact ⟨by decide, by decide, by decide⟩
  | exact log2_lt (by omega) (by omega)
  | exact ⟨by omega, by omega⟩)
local macro_rules | `(tactic| walk_at "ty") => `(tactic| first
  | exact ty_int | exact ty_bl | exact ty_str | exact ty_non
  | exact ty_L (by assumption) | exact ty_T (by assumption)
  | exact ty_L (SqL.of (by assumption)) | exact ty_T (SqT.of (by assumption)))
local macro_rules | `(tactic| walk_at "kit") => `(tactic| first
  | exact k_ii | exact k_ib | exact k_is | exact k_il | exact k_it
  | exact k_bb | exact k_bi | exact k_bs | exact k_bl | exact k_bt
  | exact k_ss | exact k_sb | exact k_si | exact k_sl | exact k_st
  | exact k_ll | exact k_lb | exact k_li | exact k_ls | exact k_lt
  | exact k_tt | exact k_tb | exact k_ti | exact k_ts | exact k_tl
  | exact k_nn | exact k_ni | exact k_ns | exact k_nl | exact k_nt)
local macro_rules | `(tactic| walk_at "s1") => `(tactic| first
  | with_reducible refine w_seq ?_
  | with_reducible refine w_set ?_
  | with_reducible refine w_op ?_
  | ((with_reducible refine' w_var ?h1 ?_); (case h1 => rfl))
  | with_reducible refine w_c ?_
  | with_reducible refine w_cb ?_
  | with_reducible refine w_cons ?_
  | with_reducible refine w_nil ?_
  | with_reducible refine w_I0 ?_
  | ((with_reducible refine' w_I ?c1 ?_); case c1 => walk_at "cond")
  | with_reducible refine w_ret ?_
  | with_reducible refine w_next ?_
  | with_reducible refine w_ifS ?_
  | with_reducible refine w_test ?_
  | with_reducible refine w_tB ?_
  | with_reducible refine w_k ?_
  | with_reducible refine w_eqI ?_
  | with_reducible refine w_neI ?_
  | with_reducible refine w_eqS ?_
  | with_reducible refine w_neS ?_
  | with_reducible refine w_and ?_
  | with_reducible refine w_or ?_
  | with_reducible refine w_not ?_
  | with_reducible refine w_andV ?_
  | with_reducible refine w_orV ?_
  | with_reducible refine w_notV ?_
  | with_reducible refine w_ifE ?_
  | with_reducible refine w_true ?_
  | with_reducible refine w_false ?_
  | with_reducible refine w_ntrue ?_
  | with_reducible refine w_nfalse ?_
  | with_reducible refine w_call ?_
  | with_reducible refine c_int ?_
  | with_reducible refine c_abs ?_
  | with_reducible refine c_max ?_
  | with_reducible refine c_min ?_
  | with_reducible refine w_drop ?_
  | with_reducible refine w_sfld ?_
  | with_reducible refine w_meth ?_
  | with_reducible refine w_make ?_
  | with_reducible refine w_prop ?_
  | with_reducible refine w_callK ?_
  | with_reducible refine w_callN ?_
  | with_reducible refine w_star ?_
  | with_reducible refine w_gcons ?_
  | with_reducible refine w_gname ?_
  | with_reducible refine w_gnil ?_
  | with_reducible refine w_retN ?_
  | with_reducible refine w_tup ?_
  | with_reducible refine w_lst ?_
  | with_reducible refine w_fld ?_
  | with_reducible refine w_bm ?_
  | with_reducible refine w_bm0 ?_
  | with_reducible refine w_forL ?_
  | with_reducible refine w_forT ?_
  | with_reducible refine w_forS ?_
  | with_reducible refine w_forR ?_
  | with_reducible refine w_lcR ?_
  | with_reducible refine w_lcL ?_
  | with_reducible refine w_lcT ?_
  | with_reducible refine w_isN ?_
  | with_reducible refine w_notN ?_
  | with_reducible refine w_asg ?_
  | with_reducible refine w_gsub ?_
  | ((with_reducible refine' w_aug ?h1 ?_); (case h1 => rfl))
  | with_reducible refine w_augS ?_
  | with_reducible refine w_ipI ?_
  | with_reducible refine w_un ?_
  | with_reducible refine w_U ?_
  | ((with_reducible refine' w_iteF ?f1 ?_); case f1 => (first | (intro h; cases h; done) | decide))
  | ((with_reducible refine' w_iteT ?f1 ?_); case f1 => rfl)
  | ((with_reducible refine' w_iteNF ?f1 ?_); case f1 => rfl)
  | ((with_reducible refine' w_iteNT ?f1 ?_); case f1 => (first | (intro h; cases h; done) | decide))
  | ((with_reducible refine' c_isi ?t1 ?k1 ?_); (case t1 => walk_at "ty"); (case k1 => walk_at "kit"))
  | ((with_reducible refine' w_eq ?e1 ?_); case e1 => rfl)
  | ((with_reducible refine' w_ne ?e1 ?_); case e1 => rfl)
  | walk_at "u1")
local macro_rules | `(tactic| walk_at "s") => `(tactic| repeat walk_at "s1")
local macro_rules | `(tactic| walk_at "mem") => `(tactic| first | with_reducible exact List.mem_cons_self .. | ((with_reducible refine' List.mem_cons_of_mem _ ?q); (case q => walk_at "mem")) | assumption | ((with_reducible refine' List.mem_append_right _ ?q); (case q => walk_at "mem")) | (exact List.mem_append_left _ (by assumption)))
local macro_rules | `(tactic| walk_at "pk") => `(tactic| first | with_reducible exact Pk.here | ((with_reducible refine' Pk.there ?q); (case q => walk_at "pk")) | ((with_reducible refine' Pk.app ?q); (case q => walk_at "pk")))
local macro_rules | `(tactic| walk_at "pkb") => `(tactic| first | with_reducible exact PkB.here | ((with_reducible refine' PkB.there ?q); (case q => walk_at "pkb")) | ((with_reducible refine' PkB.app ?q); (case q => walk_at "pkb")))
local macro_rules | `(tactic| walk_at "spl") => `(tactic| first | with_reducible exact Spl.nil | ((with_reducible refine' Spl.cons ?h ?t); (case h => walk_at "pk"); (case t => walk_at "spl")) | ((with_reducible refine' Spl.blk ?h ?t); (case h => walk_at "pkb"); (case t => walk_at "spl")))
local macro_rules | `(tactic| walk_at "sbx") => `(tactic| first | with_reducible exact Sb.refl | with_reducible exact Sb.nil | with_reducible exact Sb.left | ((with_reducible refine' Sb.cons ?h ?t); (case h => walk_at "pk"); (case t => walk_at "sbx")) | ((with_reducible refine' Sb.blk ?h ?t); (case h => walk_at "pkb"); (case t => walk_at "sbx")) | ((with_reducible refine' Sb.drop ?q); (case q => walk_at "sbx")) | ((with_reducible refine' Sb.right ?q); (case q => walk_at "sbx")))
local macro_rules | `(tactic| walk_at "hd") => `(tactic| first | assumption | exact Hd.sb (by assumption) (by walk_at "sbx"))
local macro_rules | `(tactic| walk_at "sq") => `(tactic| first
  | assumption
  | exact Hd.sqL (by assumption) (by walk_at "mem")
  | exact Hd.sqT (by assumption) (by walk_at "mem")
  | exact Hd.sqF (by assumption) (by walk_at "mem")
  | (refine .inl ?_; walk_at "sq")
  | (refine .inr ?_; walk_at "sq"))
local macro_rules | `(tactic| walk_at "at") => `(tactic| first | rfl | assumption | exact atI_nat (by assumption))
local macro_rules | `(tactic| walk_at "dn1") => `(tactic| first
  | exact Dn.int | exact Dn.str | exact Dn.non | exact Dn.bl | assumption
  | ((refine' Dn.tp ?a1 ?m1 ?l1 ?p1); (case a1 => assumption); (case m1 => walk_at "mem"); (case l1 => (simp only [List.length_cons, List.length_nil]; omega)); (case p1 => walk_at "dns"))
  | ((refine' Dn.lt ?a1 ?m1 ?l1 ?p1); (case a1 => assumption); (case m1 => walk_at "mem"); (case l1 => (simp only [List.length_cons, List.length_nil]; omega)); (case p1 => walk_at "dns")))
local macro_rules | `(tactic| walk_at "dns") => `(tactic| first | exact Paired.nil | exact Dn.ints | ((refine' Paired.cons ?a1 ?b1); (case a1 => walk_at "dn1"); (case b1 => walk_at "dns")))
local macro_rules | `(tactic| walk_at "g1") => `(tactic| first
  | ((with_reducible refine' g_ixI ?h1 ?h2 ?h3 ?_); (case h1 => assumption); (case h2 => walk_at "mem"); (case h3 => omega); intro z hz)
  | ((with_reducible refine' g_ixIT ?h1 ?h2 ?h3 ?_); (case h1 => assumption); (case h2 => walk_at "mem"); (case h3 => omega); intro z hz)
  | ((with_reducible refine' g_setI ?h1 ?h2 ?h3 ?_); (case h1 => assumption); (case h2 => walk_at "pk"); (case h3 => omega); intro H2 hh2)
  | ((with_reducible refine' w_ixL ?h1 ?h2 ?_); (case h1 => walk_at "sq"); (case h2 => walk_at "at"))
  | ((with_reducible refine' w_ixT ?h1 ?h2 ?_); (case h1 => walk_at "sq"); (case h2 => walk_at "at"))
  | ((with_reducible refine' w_ixAny ?h1 ?h2 ?_); (case h1 => walk_at "sq"); (case h2 => walk_at "at"))
  | ((with_reducible refine' c_lenA ?h1 ?_); (case h1 => walk_at "sq"))
  | ((with_reducible refine' c_isi ?t1 ?k1 ?_); (case t1 => first | exact ty_T (by walk_at "sq") | exact ty_L (by walk_at "sq")); (case k1 => walk_at "kit"))
  | ((with_reducible refine' g_lst ?h1 ?h2 ?_); (case h1 => assumption); (case h2 => walk_at "sz"); intro p H2 hh2)
  | ((with_reducible refine' g_tup ?h1 ?h2 ?_); (case h1 => assumption); (case h2 => walk_at "sz"); intro p H2 hh2)
  | ((with_reducible refine' g_dict ?h1 ?_); (case h1 => assumption); intro p H2 hh2)
  | ((with_reducible refine' g_listL ?h1 ?h2 ?_); (case h1 => assumption); (case h2 => walk_at "sq"); intro p H2 hh2)
  | ((with_reducible refine' g_listT ?h1 ?h2 ?_); (case h1 => assumption); (case h2 => walk_at "sq"); intro p H2 hh2)
  | ((with_reducible refine' g_tupL ?h1 ?h2 ?_); (case h1 => assumption); (case h2 => walk_at "sq"); intro p H2 hh2)
  | ((with_reducible refine' g_set ?h1 ?h2 ?h3 ?_); (case h1 => assumption); (case h2 => walk_at "pk"); (case h3 => first | rfl | assumption | exact Evl.ixN_nat (by first | omega | (simp only [List.length_cons, List.length_nil]; omega))); intro H2 hh2)
  | ((with_reducible refine' g_kbm ?h1 ?h2 ?_); (case h1 => assumption); (case h2 => walk_at "mem"))
  | ((with_reducible refine' g_kbm0 ?h1 ?h2 ?_); (case h1 => assumption); (case h2 => walk_at "mem"))
  | ((with_reducible refine' g_app ?h1 ?h2 ?h3 ?_); (case h1 => assumption); (case h2 => walk_at "pk"); (case h3 => walk_at "sz"); intro H2 hh2)
  | ((with_reducible refine' g_kapp ?h1 ?h2 ?h3 ?_); (case h1 => assumption); (case h2 => walk_at "pk"); (case h3 => walk_at "sz"); intro H2 hh2)
  | ((with_reducible refine' g_fld ?h1 ?h2 ?h3 ?h4 ?h5 ?_); (case h1 => assumption); (case h2 => walk_at "mem"); (case h3 => assumption); (case h4 => assumption); (case h5 => rfl))
  | ((with_reducible refine' g_sfld ?h1 ?h2 ?h3 ?h4 ?h5 ?_); (case h1 => assumption); (case h2 => walk_at "pk"); (case h3 => assumption); (case h4 => assumption); (case h5 => decide); intro H2 hh2)
  | ((with_reducible refine' g_meth ?h1 ?h2 ?h3 ?_); (case h1 => assumption); (case h2 => walk_at "mem"); (case h3 => rfl))
  | ((with_reducible refine' g_prop ?h1 ?h2 ?_); (case h1 => assumption); (case h2 => walk_at "mem"))
  | ((with_reducible refine' g_make ?h1 ?_); (case h1 => assumption); intro x H2 hh2)
  | ((with_reducible refine' g_cat ?h1 ?h2 ?h3 ?h4 ?_); (case h1 => assumption); (case h2 => walk_at "mem"); (case h3 => walk_at "mem"); (case h4 => walk_at "sz"); intro p H2 hh2)
  | ((with_reducible refine' g_inT ?h1 ?h2 ?h3 ?h4 ?h5 ?_); (case h1 => assumption); (case h2 => walk_at "mem"); (case h3 => rfl); (case h4 => rfl); (case h5 => rfl)))
local macro_rules | `(tactic| walk_at "gs") => `(tactic| repeat first | walk_at "s1" | walk_at "g1")
local macro_rules | `(tactic| walk_at "ite") => `(tactic| first
  | ((with_reducible refine' w_iteT ?h1 ?_); (case h1 => omega))
  | ((with_reducible refine' w_iteF ?h1 ?_); (case h1 => omega))
  | (with_reducible refine w_ite ?_ ?_ <;> intro hq)
  | ((with_reducible refine' w_iteNT ?h1 ?_); (case h1 => omega))
  | ((with_reducible refine' w_iteNF ?h1 ?_); (case h1 => omega))
  | (with_reducible refine w_iteN ?_ ?_ <;> intro hq))
local macro_rules | `(tactic| walk_at "go") => `(tactic| repeat' first | walk_at "s1" | walk_at "g1" | walk_at "ite")
local macro_rules | `(tactic| walk_at "g1") => `(tactic| first
  | ((with_reducible refine' g_take1 ?h1 ?h2 ?h3 ?h4 ?_); (case h1 => assumption); (case h2 => walk_at "spl"); (case h3 => omega); (case h4 => omega); intro k H2 hk1 hh2)
  | ((with_reducible refine' g_take ?h1 ?h2 ?h4 ?_); (case h1 => assumption); (case h2 => walk_at "spl"); (case h4 => omega); intro k H2 hk1 hh2)
  | ((with_reducible refine' g_betweenN ?h1 ?h2 ?h5 ?h3 ?h4 ?_); (case h1 => assumption); (case h2 => walk_at "spl"); (case h5 => omega); (case h3 => omega); (case h4 => omega); intro k H2 hk1 hk2 hh2)
  | ((with_reducible refine' g_between ?h1 ?h2 ?h3 ?h4 ?_); (case h1 => assumption); (case h2 => walk_at "spl"); (case h3 => omega); (case h4 => omega); intro k H2 hk1 hk2 hh2)
  | ((with_reducible refine' g_size ?h1 ?h2 ?h3 ?h4 ?_); (case h1 => assumption); (case h2 => walk_at "spl"); (case h3 => omega); (case h4 => omega); intro k H2 hk1 hh2)
  | ((with_reducible refine' g_word ?h1 ?h2 ?_); (case h1 => assumption); (case h2 => walk_at "spl"); intro k H2 hk1 hh2))
section
variable {P : Program} {w : World} {K : PySem.W.Frag} {mg : Str → Option Value} {base : Heap} {aREG aOPS : Addr}
def sp_lwords : Sp := fun vs H Q _ => ∃ (st c : Addr) (n : Nat) (R : List Cell), vs = [.ref st, .int n] ∧ n ≤ 1000 ∧ Hd H (stoC st c :: scrC c :: R) ∧
  ∀ (p : Addr) (ws : List Int) H', ws.length = n → (∀ x ∈ ws, (0 : Int) ≤ x ∧ x ≤ 65535) → Hd H' (lstC p (ws.map V.int) :: stoC st c :: scrC c :: R) → Q (.ref p) H'
theorem g_words {st c : Addr} {n : Nat} {H : Hp} {L R : List Cell} {Q : VK} {E : XK} (hh : Hd H L) (s : Spl L [stoC st c, scrC c] R) (hn : n ≤ 1000) (q : ∀ (p : Addr) (ws : List Int) H', ws.length = n → (∀ x ∈ ws, (0 : Int) ≤ x ∧ x ≤ 65535) → Hd H' (lstC p (ws.map V.int) :: stoC st c :: scrC c :: R) → Q (.ref p) H') : sp_lwords [.ref st, .int n] H Q E :=
  ⟨st, c, n, R, rfl, hn, hh.spl s, q⟩
theorem c_words_ (T : Txt K mg aREG aOPS) (d : DefAt K mg "_law_words" s__law_words) (c__law_take : C8.Cal P w K mg base 2 "_law_take" sp_take []) (c__law_word : C8.Cal P w K mg base 4 "_law_word" sp_word []) : C8.Cal P w K mg base 5 "_law_words" sp_lwords [] := by
  refine mk d sc__law_words (fun _ _ _ _ _ _ us hl => match us, hl with | [_, _], _ => rfl) (fun vs H Q E h => ?_) (fun f cdv A outer s H vs Q E hr h => ?_)
  · obtain ⟨st, c, n, R, rfl, _⟩ := h
    rfl
  · obtain ⟨st, c, n, R, rfl, hn, hh, q⟩ := h
    refine ⟨_, (pss_cons (ps_set (i := 2) sc__law_words.nd rfl (Or.inl rfl) (C8.pe_c c__law_take hr (by first | decide | omega) rfl (pa_cons (pv 0) (pa_cons pe_int pa_nil))))
  (pss_cons (ps_if (pt_cmpR op_eq (pv 2) pe_int (nomark _))
    (pss_one (ps_ret (pe_op op_rep (pe_lst (pa_cons pe_int pa_nil)) (pv 1))))
    pss_nil)
  (pss_cons (ps_if (pt_cmpR op_eq (pv 2) pe_int (nomark _))
    (pss_one (ps_ret (pe_op op_rep (pe_lst (pa_cons (C8.pe_c c__law_word hr (by first | decide | omega) rfl (pa_cons (pv 0) pa_nil)) pa_nil)) (pv 1))))
    pss_nil)
  (pss_one (ps_ret (pe_lc (own := [("k", 3)]) rfl sc__law_words.nd (pi_range1 rfl T.b_range (pa_cons (pv 1) pa_nil)) (blkOk_by (own := [("k", 3)]) (N := nm__law_words) (sc := defScope s__law_words) (by decide +kernel)) (fun _ _ _ _ _ => (pg_name (i := 3) sc__law_words.nd rfl (Or.inl rfl))) (fun _ _ _ _ _ => pts_nil) (fun _ _ _ _ _ => (C8.pe_c c__law_word hr (by first | decide | omega) rfl (pa_cons (pv 0) pa_nil))))))))), ?_⟩
    have en : ∀ k : Int, (List.replicate ((n : Int)).toNat [V.int k]).flatten = (List.replicate n k).map V.int := fun k => by rw [Int.toNat_natCast]; exact rep_ints n
    walk_at "go"
    · refine g_rep (by assumption) (by walk_at "mem") (by omega) (by omega) (by rw [Int.toNat_natCast]; exact Nat.le_trans (show 1 * n ≤ 1000 by omega) (by decide)) fun p H2 h2 => ?_
      rw [en] at h2
      exact q p (List.replicate n 0) H2 (List.length_replicate ..) (fun x hx => by rw [List.eq_of_mem_replicate hx]; omega) (by walk_at "hd")
    · rename_i k _ _ _ _ _ _
      refine g_rep (by assumption) (by walk_at "mem") (by omega) (by omega) (by rw [Int.toNat_natCast]; exact Nat.le_trans (show 1 * n ≤ 1000 by omega) (by decide)) fun p H2 h2 => ?_
      rw [en] at h2
      exact q p (List.replicate n k) H2 (List.length_replicate ..) (fun x hx => by rw [List.eq_of_mem_replicate hx]; omega) (by walk_at "hd")
    · refine g_lcR (by assumption) rfl (by omega) (fun i D H => ∃ ws : List Int, ws.length = i ∧ (∀ x ∈ ws, (0 : Int) ≤ x ∧ x ≤ 65535) ∧ Hd H (lstC D (ws.map V.int) :: stoC st c :: scrC c :: R)) (fun D H1 h1 => ⟨[], rfl, by simp, h1⟩) ?_ ?_
      · rintro i D H2 hi ⟨ws, hl, hw, h2⟩
        walk_at "go"
        rename_i k _ _ _ _ _
        refine ⟨ws ++ [(k : Int)], by simp [hl], fun x hx => ?_, by rw [List.map_append]; walk_at "hd"⟩
        rcases List.mem_append.mp hx with z | z
        · exact hw x z
        · rw [List.mem_singleton.mp z]; omega
      · rintro D H2 ⟨ws, hl, hw, h2⟩
        exact q D ws H2 hl hw h2
end
end K45
set_option Elab.async false
set_option linter.all false
set_option maxRecDepth 100000
set_option maxHeartbeats 4000000
namespace K45
open PySem PySem.Spec PyProof.Rows L2 Wk
local macro_rules | `(tactic| walk_at "u1") => `(tactic| fail "no more")
local macro_rules | `(tactic| walk_at "pos") => `(tactic| first | assumption | omega | decide | (simp only [Int.ofNat_eq_natCast] at *; omega))
local macro_rules | `(tactic| walk_at "sz") => `(tactic| first
  | (simp only [List.length_cons, List.length_nil]; decide)
  | exact Evl.sz_of (by omega)
  | exact Evl.sz_lt (by omega)
  | exact Evl.sz_of (by simp only [List.length_map, List.length_append, List.length_cons, List.length_nil, List.length_replicate]; omega)
  | exact Evl.sz_lt (by simp only [List.length_map, List.length_append, List.length_cons, List.length_nil, List.length_replicate]; omega))
local macro_rules | `(tactic| walk_at "cond") => `(tactic| first
  | exact Or.inr ⟨by decide, by decide⟩
  | (show (0 : Int) < _; first | decide | assumption | omega)
  | exact Or.inl ⟨by omega, by omega⟩
  | exact Or.inr ⟨by omega, by omega⟩
  | exact ⟨by decide, by decide, by decide⟩
  | exact log2_lt (by omega) (by omega)
  | exact ⟨by omega, by omega⟩)
local macro_rules | `(tactic| walk_at "ty") => `(tactic| first
  | exact ty_int | exact ty_bl | exact ty_str | exact ty_non
  | exact ty_L (by assumption) | exact ty_T (by assumption)
  | exact ty_L (SqL.of (by assumption)) | exact ty_T (SqT.of (by assumption)))
local macro_rules | `(tactic| walk_at "kit") => `(tactic| first
  | exact k_ii | exact k_ib | exact k_is | exact k_il | exact k_it
  | exact k_bb | exact k_bi | exact k_bs | exact k_bl | exact k_bt
  | exact k_ss | exact k_sb | exact k_si | exact k_sl | exact k_st
  | exact k_ll | exact k_lb | exact k_li | exact k_ls | exact k_lt
  | exact k_tt | exact k_tb | exact k_ti | exact k_ts | exact k_tl
  | exact k_nn | exact k_ni | exact k_ns | exact k_nl | exact k_nt)
local macro_rules | `(tactic| walk_at "s1") => `(tactic| first
  | with_reducible refine w_seq ?_
  | with_reducible refine w_set ?_
  | with_reducible refine w_op ?_
  | ((with_reducible refine' w_var ?h1 ?_); (case h1 => rfl))
  | with_reducible refine w_c ?_
  | with_reducible refine w_cb ?_
  | with_reducible refine w_cons ?_
  | with_reducible refine w_nil ?_
  | with_reducible refine w_I0 ?_
  | ((with_reducible refine' w_I ?c1 ?_); case c1 => walk_at "cond")
  | with_reducible refine w_ret ?_
  | with_reducible refine w_next ?_
  | with_reducible refine w_ifS ?_
  | with_reducible refine w_test ?_
  | with_reducible refine w_tB ?_
  | with_reducible refine w_k ?_
  | with_reducible refine w_eqI ?_
  | with_reducible refine w_neI ?_
  | with_reducible refine w_eqS ?_
  | with_reducible refine w_neS ?_
  | with_reducible refine w_and ?_
  | with_reducible refine w_or ?_
  | with_reducible refine w_not ?_
  | with_reducible refine w_andV ?_
  | with_reducible refine w_orV ?_
  | with_reducible refine w_notV ?_
  | with_reducible refine w_ifE ?_
  | with_reducible refine w_true ?_
  | with_reducible refine w_false ?_
  | with_reducible refine w_ntrue ?_
  | with_reducible refine w_nfalse ?_
  | with_reducible refine w_call ?_
  | with_reducible refine c_int ?_
  | with_reducible refine c_abs ?_
  | with_reducible refine c_max ?_
  | with_reducible refine c_min ?_
  | with_reducible refine w_drop ?_
  | with_reducible refine w_sfld ?_
  | with_reducible refine w_meth ?_
  | with_reducible refine w_make ?_
  | with_reducible refine w_prop ?_
  | with_reducible refine w_callK ?_
  | with_reducible refine w_callN ?_
  | with_reducible refine w_star ?_
  | with_reducible refine w_gcons ?_
  | with_reducible refine w_gname ?_
  | with_reducible refine w_gnil ?_
  | with_reducible refine w_retN ?_
  | with_reducible refine w_tup ?_
  | with_reducible refine w_lst ?_
  | with_reducible refine w_fld ?_
  | with_reducible refine w_bm ?_
  | with_reducible refine w_bm0 ?_
  | with_reducible refine w_forL ?_
  | with_reducible refine w_forT ?_
  | with_reducible refine w_forS ?_
  | with_reducible refine w_forR ?_
  | with_reducible refine w_lcR ?_
  | with_reducible refine w_lcL ?_
  | with_reducible refine w_lcT ?_
  | with_reducible refine w_isN ?_
  | with_reducible refine w_notN ?_
  | with_reducible refine w_asg ?_
  | with_reducible refine w_gsub ?_
  | ((with_reducible refine' w_aug ?h1 ?_); (case h1 => rfl))
  | with_reducible refine w_augS ?_
  | with_reducible refine w_ipI ?_
  | with_reducible refine w_un ?_
  | with_reducible refine w_U ?_
  | ((with_reducible refine' w_iteF ?f1 ?_); case f1 => (first | (intro h; cases h; done) | decide))
  | ((with_reducible refine' w_iteT ?f1 ?_); case f1 => rfl)
  | ((with_reducible refine' w_iteNF ?f1 ?_); case f1 => rfl)
  | ((with_reducible refine' w_iteNT ?f1 ?_); case f1 => (first | (intro h; cases h; done) | decide))
  | ((with_reducible refine' c_isi ?t1 ?k1 ?_); (case t1 => walk_at "ty"); (case k1 => walk_at "kit"))
  | ((with_reducible refine' w_eq ?e1 ?_); case e1 => rfl)
  | ((with_reducible refine' w_ne ?e1 ?_); case e1 => rfl)
  | walk_at "u1")
local macro_rules | `(tactic| walk_at "s") => `(tactic| repeat walk_at "s1")
local macro_rules | `(tactic| walk_at "mem") => `(tactic| first | with_reducible exact List.mem_cons_self .. | ((with_reducible refine' List.mem_cons_of_mem _ ?q); (case q => walk_at "mem")) | assumption | ((with_reducible refine' List.mem_append_right _ ?q); (case q => walk_at "mem")) | (exact List.mem_append_left _ (by assumption)))
local macro_rules | `(tactic| walk_at "pk") => `(tactic| first | with_reducible exact Pk.here | ((with_reducible refine' Pk.there ?q); (case q => walk_at "pk")) | ((with_reducible refine' Pk.app ?q); (case q => walk_at "pk")))
local macro_rules | `(tactic| walk_at "pkb") => `(tactic| first | with_reducible exact PkB.here | ((with_reducible refine' PkB.there ?q); (case q => walk_at "pkb")) | ((with_reducible refine' PkB.app ?q); (case q => walk_at "pkb")))
local macro_rules | `(tactic| walk_at "spl") => `(tactic| first | with_reducible exact Spl.nil | ((with_reducible refine' Spl.cons ?h ?t); (case h => walk_at "pk"); (case t => walk_at "spl")) | ((with_reducible refine' Spl.blk ?h ?t); (case h => walk_at "pkb"); (case t => walk_at "spl")))
local macro_rules | `(tactic| walk_at "sbx") => `(tactic| first | with_reducible exact Sb.refl | with_reducible exact Sb.nil | with_reducible exact Sb.left | ((with_reducible refine' Sb.cons ?h ?t); (case h => walk_at "pk"); (case t => walk_at "sbx")) | ((with_reducible refine' Sb.blk ?h ?t); (case h => walk_at "pkb"); (case t => walk_at "sbx")) | ((with_reducible refine' Sb.drop ?q); (case q => walk_at "sbx")) | ((with_reducible refine' Sb.right ?q); (case q => walk_at "sbx")))
local macro_rules | `(tactic| walk_at "hd") => `(tactic| first | assumption | exact Hd.sb (by assumption) (by walk_at "sbx"))
local macro_rules | `(tactic| walk_at "sq") => `(tactic| first
  | assumption
  | exact Hd.sqL (by assumption) (by walk_at "mem")
  | exact Hd.sqT (by assumption) (by walk_at "mem")
  | exact Hd.sqF (by assumption) (by walk_at "mem")
  | (refine .inl ?_; walk_at "sq")
  | (refine .inr ?_; walk_at "sq"))
local macro_rules | `(tactic| walk_at "at") => `(tactic| first | rfl | assumption | exact atI_nat (by assumption))
local macro_rules | `(tactic| walk_at "dn1") => `(tactic| first
  | exact Dn.int | exact Dn.str | exact Dn.non | exact Dn.bl | assumption
  | ((refine' Dn.tp ?a1 ?m1 ?l1 ?p1); (case a1 => assumption); (case m1 => walk_at "mem"); (case l1 => (simp only [List.length_cons, List.length_nil]; omega)); (case p1 => walk_at "dns"))
  | ((refine' Dn.lt ?a1 ?m1 ?l1 ?p1); (case a1 => assumption); (case m1 => walk_at "mem"); (case l1 => (simp only [List.length_cons, List.length_nil]; omega)); (case p1 => walk_at "dns")))
local macro_rules | `(tactic| walk_at "dns") => `(tactic| first | exact Paired.nil | exact Dn.ints | ((refine' Paired.cons ?a1 ?b1); (case a1 => walk_at "dn1"); (case b1 => walk_at "dns")))
local macro_rules | `(tactic| walk_at "g1") => `(tactic| first
  | ((with_reducible refine' g_ixI ?h1 ?h2 ?h3 ?_); (case h1 => assumption); (case h2 => walk_at "mem"); (case h3 => omega); intro z hz)
  | ((with_reducible refine' g_ixIT ?h1 ?h2 ?h3 ?_); (case h1 => assumption); (case h2 => walk_at "mem"); (case h3 => omega); intro z hz)
  | ((with_reducible refine' g_setI ?h1 ?h2 ?h3 ?_); (case h1 => assumption); (case h2 => walk_at "pk"); (case h3 => omega); intro H2 hh2)
  | ((with_reducible refine' w_ixL ?h1 ?h2 ?_); (case h1 => walk_at "sq"); (case h2 => walk_at "at"))
  | ((with_reducible refine' w_ixT ?h1 ?h2 ?_); (case h1 => walk_at "sq"); (case h2 => walk_at "at"))
  | ((with_reducible refine' w_ixAny ?h1 ?h2 ?_); (case h1 => walk_at "sq"); (case h2 => walk_at "at"))
  | ((with_reducible refine' c_lenA ?h1 ?_); (case h1 => walk_at "sq"))
  | ((with_reducible refine' c_isi ?t1 ?k1 ?_); (case t1 => first | exact ty_T (by walk_at "sq") | exact ty_L (by walk_at "sq")); (case k1 => walk_at "kit"))
  | ((with_reducible refine' g_lst ?h1 ?h2 ?_); (case h1 => assumption); (case h2 => walk_at "sz"); intro p H2 hh2)
  | ((with_reducible refine' g_tup ?h1 ?h2 ?_); (case h1 => assumption); (case h2 => walk_at "sz"); intro p H2 hh2)
  | ((with_reducible refine' g_dict ?h1 ?_); (case h1 => assumption); intro p H2 hh2)
  | ((with_reducible refine' g_listL ?h1 ?h2 ?_); (case h1 => assumption); (case h2 => walk_at "sq"); intro p H2 hh2)
  | ((with_reducible refine' g_listT ?h1 ?h2 ?_); (case h1 => assumption); (case h2 => walk_at "sq"); intro p H2 hh2)
  | ((with_reducible refine' g_tupL ?h1 ?h2 ?_); (case h1 => assumption); (case h2 => walk_at "sq"); intro p H2 hh2)
  | ((with_reducible refine' g_set ?h1 ?h2 ?h3 ?_); (case h1 => assumption); (case h2 => walk_at "pk"); (case h3 => first | rfl | assumption | exact Evl.ixN_nat (by first | omega | (simp only [List.length_cons, List.length_nil]; omega))); intro H2 hh2)
  | ((with_reducible refine' g_kbm ?h1 ?h2 ?_); (case h1 => assumption); (case h2 => walk_at "mem"))
  | ((with_reducible refine' g_kbm0 ?h1 ?h2 ?_); (case h1 => assumption); (case h2 => walk_at "mem"))
  | ((with_reducible refine' g_app ?h1 ?h2 ?h3 ?_); (case h1 => assumption); (case h2 => walk_at "pk"); (case h3 => walk_at "sz"); intro H2 hh2)
  | ((with_reducible refine' g_kapp ?h1 ?h2 ?h3 ?_); (case h1 => assumption); (case h2 => walk_at "pk"); (case h3 => walk_at "sz"); intro H2 hh2)
  | ((with_reducible refine' g_fld ?h1 ?h2 ?h3 ?h4 ?h5 ?_); (case h1 => assumption); (case h2 => walk_at "mem"); (case h3 => assumption); (case h4 => assumption); (case h5 => rfl))
  | ((with_reducible refine' g_sfld ?h1 ?h2 ?h3 ?h4 ?h5 ?_); (case h1 => assumption); (case h2 => walk_at "pk"); (case h3 => assumption); (case h4 => assumption); (case h5 => decide); intro H2 hh2)
  | ((with_reducible refine' g_meth ?h1 ?h2 ?h3 ?_); (case h1 => assumption); (case h2 => walk_at "mem"); (case h3 => rfl))
  | ((with_reducible refine' g_prop ?h1 ?h2 ?_); (case h1 => assumption); (case h2 => walk_at "mem"))
  | ((with_reducible refine' g_make ?h1 ?_); (case h1 => assumption); intro x H2 hh2)
  | ((with_reducible refine' g_cat ?h1 ?h2 ?h3 ?h4 ?_); (case h1 => assumption); (case h2 => walk_at "mem"); (case h3 => walk_at "mem"); (case h4 => walk_at "sz"); intro p H2 hh2)
  | ((with_reducible refine' g_inT ?h1 ?h2 ?h3 ?h4 ?h5 ?_); (case h1 => assumption); (case h2 => walk_at "mem"); (case h3 => rfl); (case h4 => rfl); (case h5 => rfl)))
local macro_rules | `(tactic| walk_at "gs") => `(tactic| repeat first | walk_at "s1" | walk_at "g1")
local macro_rules | `(tactic| walk_at "ite") => `(tactic| first
  | ((with_reducible refine' w_iteT ?h1 ?_); (case h1 => omega))
  | ((with_reducible refine' w_iteF ?h1 ?_); (case h1 => omega))
  | (with_reducible refine w_ite ?_ ?_ <;> intro hq)
  | ((with_reducible refine' w_iteNT ?h1 ?_); (case h1 => omega))
  | ((with_reducible refine' w_iteNF ?h1 ?_); (case h1 => omega))
  | (with_reducible refine w_iteN ?_ ?_ <;> intro hq))
local macro_rules | `(tactic| walk_at "go") => `(tactic| repeat' first | walk_at "s1" | walk_at "g1" | walk_at "ite")
section
variable {P : Program} {w : World} {K : PySem.W.Frag} {mg : Str → Option Value} {base : Heap} {aREG aOPS : Addr}
local macro_rules | `(tactic| walk_at "g1") => `(tactic| ((with_reducible refine' g_sfld ?h1 ?h2 ?h3 ?h4 ?h5 ?_); (case h1 => assumption); (case h2 => walk_at "pk"); (case h3 => assumption); (case h4 => assumption); (case h5 => (simp only [List.length_cons, List.length_nil]; omega)); intro H2 hh2))
theorem hdCast {c c' : Cell} {L : List Cell} {H : Hp} (h : Hd H (c :: L)) (e : c = c') : Hd H (c' :: L) := e ▸ h
structure PipC (K : PySem.W.Frag) (C : Addr) : Prop where
  cl : Cls K C
  n1 : NoAttr K C "_room"
  n2 : NoAttr K C "_words"
  n3 : NoAttr K C "_taken"
/-- a pipe at o: its room, its words at l, how many came out -/
abbrev pipF (room : Nat) (l : Addr) (out : Nat) : List (Str × V) := [("_room", .int room), ("_words", .ref l), ("_taken", .int out)]
abbrev pipI (C o : Addr) (room : Nat) (l : Addr) (out : Nat) : Cell := insC o C (pipF room l out)
abbrev pipL (C o : Addr) (room : Nat) (l : Addr) (ws : List Int) (out : Nat) : List Cell := [pipI C o room l out, lstC l (ws.map V.int)]
section
variable {C : Addr}
def sp_pipI (C : Addr) : Sp := fun vs H Q _ => ∃ (o : Addr) (room : Nat) (R : List Cell), vs = [.ref o, .int room] ∧ 1 ≤ room ∧ room ≤ 16 ∧ Hd H (insC o C [] :: R) ∧ ∀ l H', Hd H' (pipI C o room l 0 :: lstC l ([].map V.int) :: R) → Q .non H'
theorem b_pipI (T : Txt K mg aREG aOPS) (L : PipC K C) (c_ask_range : C8.Cal P w K mg base 3 "ask_range" (sp_ask K) []) (fa : Addr) (cdv : Value) (A : Around) (outer : List Env) (s : Shared) (H : Hp) (vs : List V) (Q : VK) (E : XK) (hr : Room 3 (A.deeper (envOfC "Pipe.__init__" (defScope s_Pipe____init__) s.heap.objs.size fa cdv))) (h : sp_pipI C vs H Q E) :
    ∃ t, PSs (cxOf C8.CX0 P w K mg base nm_Pipe____init__ "Pipe.__init__" (defScope s_Pipe____init__) fa cdv A outer s H E).nox (defBody s_Pipe____init__) t ∧ t { nx := fun _ H' => Q .non H', rt := Q } (L2.start nm_Pipe____init__ vs) H := by
  obtain ⟨o, room, R, rfl, h1, h2, hh, q⟩ := h
  refine ⟨_, (pss_cons (ps_expr (C8.pe_c c_ask_range hr (by first | decide | omega) rfl (pa_cons pe_str (pa_cons (pv 1) (pa_cons pe_int (pa_cons pe_int pa_nil))))))
  (pss_cons (ps_fld (pv 0) (pv 1) rfl)
  (pss_cons (ps_fld (pv 0) (pe_lst pa_nil) rfl)
  (pss_one (ps_fld (pv 0) pe_int rfl))))), ?_⟩
  have hc := L.cl
  have n1 := L.n1
  have n2 := L.n2
  have n3 := L.n3
  walk_at "gs"
  refine u_ask ⟨by omega, by omega⟩ ?_
  walk_at "gs"
  rename_i H2 h2' l H3 h3
  have h3 : Hd H3 (lstC l [] :: insC o C [("_room", .int room)] :: R) := h3
  clear hh h2'
  walk_at "gs"
  rename_i H4 h4
  have h4 : Hd H4 (insC o C [("_room", .int room), ("_words", .ref l)] :: lstC l [] :: R) := hdCast h4 rfl
  clear h3
  walk_at "gs"
  rename_i H5 h5
  exact q l H5 (show Hd H5 (pipI C o room l 0 :: lstC l [] :: R) from Hd.sb (hdCast (c' := pipI C o room l 0) h5 rfl) (by walk_at "sbx"))
theorem len_pipI {vs : List V} {H : Hp} {Q : VK} {E : XK} (h : sp_pipI C vs H Q E) : vs.length = 2 := by obtain ⟨o, room, R, rfl, _⟩ := h; rfl
abbrev PiF (K : PySem.W.Frag) (f : Addr) (fd : FuncData) : Prop := FunD K "__init__" "Pipe.__init__" (defArgs s_Pipe____init__) (defBody s_Pipe____init__) (defScope s_Pipe____init__) [.int 4] [] f fd
theorem fo_pipI {f : Addr} {fd : FuncData} (T : Txt K mg aREG aOPS) (L : PipC K C) (F : PiF K f fd) (c_ask_range : C8.Cal P w K mg base 3 "ask_range" (sp_ask K) []) : FnOk P w K mg base C8.CX0 4 f fd ["self", "room"] (sp_pipI C) :=
  F.ok sc_Pipe____init__ (fun vs H Q E h => len_pipI h) (fun cdv A outer s H vs Q E hr hsp => let ⟨t, h, q⟩ := b_pipI T L c_ask_range f cdv A outer s H vs Q E hr hsp; ⟨t, h.nox, q⟩)
theorem c_pipI0 {f : Addr} {fd : FuncData} (T : Txt K mg aREG aOPS) (L : PipC K C) (F : PiF K f fd) (M : Mk K C f) (hm : mg "Pipe" = some (.ref C)) (c_ask_range : C8.Cal P w K mg base 3 "ask_range" (sp_ask K) []) : C8.Mak P w K mg base 4 "Pipe" C (sp_pipI C) [.int 4] := by
  obtain ⟨ds, r, b⟩ := F.binds1 (ps := ["self", "room"]) 1 0 (by simp) rfl fun T kV doc pm an cdv ct us its h1 h2 => match us, its, h1, h2 with | [_], [_], _, _ => ⟨_, rfl, rfl⟩
  exact ⟨f, fd, _, ds, M, fo_pipI T L F c_ask_range, hm, b, r⟩
theorem c_pipI1 {f : Addr} {fd : FuncData} (T : Txt K mg aREG aOPS) (L : PipC K C) (F : PiF K f fd) (M : Mk K C f) (hm : mg "Pipe" = some (.ref C)) (c_ask_range : C8.Cal P w K mg base 3 "ask_range" (sp_ask K) []) : C8.Mak P w K mg base 4 "Pipe" C (sp_pipI C) [] := by
  obtain ⟨ds, r, b⟩ := F.binds1 (ps := ["self", "room"]) 2 1 (by simp) rfl fun T kV doc pm an cdv ct us its h1 h2 => match us, its, h1, h2 with | [_, _], [_], _, _ => ⟨_, rfl, rfl⟩
  exact ⟨f, fd, _, ds, M, fo_pipI T L F c_ask_range, hm, b, r⟩
theorem ck_pipI {f : Addr} {fd : FuncData} (T : Txt K mg aREG aOPS) (L : PipC K C) (F : PiF K f fd) (M : Mk K C f) (hm : mg "Pipe" = some (.ref C)) (c_ask_range : C8.Cal P w K mg base 3 "ask_range" (sp_ask K) []) : MakK P w K mg base 4 "Pipe" C (sp_pipI C) ["room"] (fun vs zs => vs ++ zs) := by
  obtain ⟨its, kb⟩ := F.kbindsD (ps := ["self", "room"]) 1 ["room"] (fun us _ ws => us ++ ws) (by simp) (fun r1 _ r3 => r1.append r3) fun T kV doc pm an cdv ct us its ws h1 h2 h3 => match us, its, ws, h1, h2, h3 with | [_], [_], [_], _, _, _ => ⟨_, rfl, rfl⟩
  exact ⟨f, fd, _, _, M, fo_pipI T L F c_ask_range, hm, kb⟩
/-! ### what a pipe shows -/
def sp_prop (C : Addr) (f : Nat → List Int → Nat → Int) : Sp := fun vs H Q _ => ∃ (o l : Addr) (room out : Nat) (ws : List Int) (R : List Cell), vs = [.ref o] ∧ Hd H R ∧ pipI C o room l out ∈ R ∧ lstC l (ws.map V.int) ∈ R ∧ Q (.int (f room ws out)) H
theorem g_prop {f : Nat → List Int → Nat → Int} {o l : Addr} {room out : Nat} {ws : List Int} {R : List Cell} {H : Hp} {Q : VK} {E : XK} (hh : Hd H R) (m1 : pipI C o room l out ∈ R) (m2 : lstC l (ws.map V.int) ∈ R) (q : Q (.int (f room ws out)) H) : sp_prop C f [.ref o] H Q E := ⟨o, l, room, out, ws, R, rfl, hh, m1, m2, q⟩
theorem p_room (L : PipC K C) (d : PrpAt K C "room" "Pipe.room" s_Pipe__room) : Prp P w K mg base 1 C "room" (sp_prop C fun room _ _ => room) := by
  refine mkP d sc_Pipe__room (fun _ _ _ _ _ _ us hl => match us, hl with | [_], _ => rfl) (fun vs H Q E h => ?_) (fun fa cdv A outer s H vs Q E hr h => ?_)
  · obtain ⟨o, l, room, out, ws, R, rfl, _⟩ := h
    rfl
  · obtain ⟨o, l, room, out, ws, R, rfl, hh, m1, m2, q⟩ := h
    refine ⟨_, (pss_one (ps_ret (pe_fld (pv 0) rfl))), ?_⟩
    have hc := L.cl
    have n1 := L.n1
    walk_at "gs"
    exact q
theorem p_size (T : Txt K mg aREG aOPS) (L : PipC K C) (d : PrpAt K C "size" "Pipe.size" s_Pipe__size) : Prp P w K mg base 1 C "size" (sp_prop C fun _ ws _ => ws.length) := by
  refine mkP d sc_Pipe__size (fun _ _ _ _ _ _ us hl => match us, hl with | [_], _ => rfl) (fun vs H Q E h => ?_) (fun fa cdv A outer s H vs Q E hr h => ?_)
  · obtain ⟨o, l, room, out, ws, R, rfl, _⟩ := h
    rfl
  · obtain ⟨o, l, room, out, ws, R, rfl, hh, m1, m2, q⟩ := h
    refine ⟨_, (pss_one (ps_ret (pe_callB Wk.b_len (by rfl) T.b_len (by decide +kernel) (pa_cons (pe_fld (pv 0) rfl) pa_nil)))), ?_⟩
    have hc := L.cl
    have n2 := L.n2
    walk_at "gs"
    rw [List.length_map]
    exact q
theorem p_sent (T : Txt K mg aREG aOPS) (L : PipC K C) (d : PrpAt K C "sent" "Pipe.sent" s_Pipe__sent) : Prp P w K mg base 1 C "sent" (sp_prop C fun _ ws out => (out : Int) + (ws.length : Int)) := by
  refine mkP d sc_Pipe__sent (fun _ _ _ _ _ _ us hl => match us, hl with | [_], _ => rfl) (fun vs H Q E h => ?_) (fun fa cdv A outer s H vs Q E hr h => ?_)
  · obtain ⟨o, l, room, out, ws, R, rfl, _⟩ := h
    rfl
  · obtain ⟨o, l, room, out, ws, R, rfl, hh, m1, m2, q⟩ := h
    refine ⟨_, (pss_one (ps_ret (pe_op op_add (pe_fld (pv 0) rfl) (pe_callB Wk.b_len (by rfl) T.b_len (by decide +kernel) (pa_cons (pe_fld (pv 0) rfl) pa_nil))))), ?_⟩
    have hc := L.cl
    have n2 := L.n2
    have n3 := L.n3
    walk_at "gs"
    rw [List.length_map]
    exact q
theorem p_received (L : PipC K C) (d : PrpAt K C "received" "Pipe.received" s_Pipe__received) : Prp P w K mg base 1 C "received" (sp_prop C fun _ _ out => out) := by
  refine mkP d sc_Pipe__received (fun _ _ _ _ _ _ us hl => match us, hl with | [_], _ => rfl) (fun vs H Q E h => ?_) (fun fa cdv A outer s H vs Q E hr h => ?_)
  · obtain ⟨o, l, room, out, ws, R, rfl, _⟩ := h
    rfl
  · obtain ⟨o, l, room, out, ws, R, rfl, hh, m1, m2, q⟩ := h
    refine ⟨_, (pss_one (ps_ret (pe_fld (pv 0) rfl))), ?_⟩
    have hc := L.cl
    have n3 := L.n3
    walk_at "gs"
    exact q
/-! ### words go in and come out -/
def sp_send (C : Addr) : Sp := fun vs H Q _ => ∃ (o l : Addr) (room out : Nat) (ws : List Int) (x : Int) (R : List Cell), vs = [.ref o, .int x] ∧ 0 ≤ x ∧ x ≤ 65535 ∧ ws.length ≤ 100 ∧ Hd H (pipI C o room l out :: lstC l (ws.map V.int) :: R) ∧
  (ws.length = room → ∀ H', Hd H' (pipI C o room l out :: lstC l (ws.map V.int) :: R) → Q (.bl false) H') ∧ (ws.length ≠ room → ∀ H', Hd H' (pipI C o room l out :: lstC l ((ws ++ [x]).map V.int) :: R) → Q (.bl true) H')
theorem b_send (T : Txt K mg aREG aOPS) (L : PipC K C) (c_ask_word : C8.Cal P w K mg base 4 "ask_word" (sp_askW K) []) (fa : Addr) (cdv : Value) (A : Around) (outer : List Env) (s : Shared) (H : Hp) (vs : List V) (Q : VK) (E : XK) (hr : Room 4 (A.deeper (envOfC "Pipe.send" (defScope s_Pipe__send) s.heap.objs.size fa cdv))) (h : sp_send C vs H Q E) :
    ∃ t, PSs (cxOf C8.CX0 P w K mg base nm_Pipe__send "Pipe.send" (defScope s_Pipe__send) fa cdv A outer s H E).nox (defBody s_Pipe__send) t ∧ t { nx := fun _ H' => Q .non H', rt := Q } (L2.start nm_Pipe__send vs) H := by
  obtain ⟨o, l, room, out, ws, x, R, rfl, h0, h1, hl, hh, q1, q2⟩ := h
  refine ⟨_, (pss_cons (ps_expr (C8.pe_c c_ask_word hr (by first | decide | omega) rfl (pa_cons pe_str (pa_cons (pv 1) pa_nil))))
  (pss_cons (ps_if (pt_cmpR op_eq (pe_callB Wk.b_len (by rfl) T.b_len (by decide +kernel) (pa_cons (pe_fld (pv 0) rfl) pa_nil)) (pe_fld (pv 0) rfl) (nomark _))
    (pss_one (ps_ret pe_bl))
    pss_nil)
  (pss_cons (ps_expr (pe_bm PySem.F.plainAttrs_list PySem.F.slot_list_append PySem.F.type_list_append mt_append (pe_fld (pv 0) rfl) (pa_cons (pv 1) pa_nil)))
  (pss_one (ps_ret pe_bl))))), ?_⟩
  have hc := L.cl
  have n1 := L.n1
  have n2 := L.n2
  have hlm : (ws.map V.int).length = ws.length := List.length_map ..
  walk_at "gs"
  refine u_askW ⟨h0, h1⟩ ?_
  walk_at "gs"
  refine w_ite (fun e => ?_) (fun e => ?_)
  · walk_at "gs"
    exact q1 (by omega) _ hh
  · walk_at "gs"
    rename_i H2 h2
    refine q2 (by omega) H2 ?_
    rw [show (ws ++ [x]).map V.int = ws.map V.int ++ [V.int x] from List.map_append]
    exact Hd.sb h2 (by walk_at "sbx")
theorem len_send {vs : List V} {H : Hp} {Q : VK} {E : XK} (h : sp_send C vs H Q E) : vs.length = 2 := by obtain ⟨o, l, room, out, ws, x, R, rfl, _⟩ := h; rfl
theorem c_send (T : Txt K mg aREG aOPS) (L : PipC K C) (d : MetAt K C "send" "Pipe.send" s_Pipe__send) (c_ask_word : C8.Cal P w K mg base 4 "ask_word" (sp_askW K) []) : C8.Met P w K mg base 5 C "send" (sp_send C) [] :=
  mkM d sc_Pipe__send (fun _ _ _ _ _ _ us hl => match us, hl with | [_, _], _ => rfl) (fun vs H Q E h => len_send h) (fun fa cdv A outer s H vs Q E hr h => b_send T L c_ask_word fa cdv A outer s H vs Q E hr h)
theorem ck_send (T : Txt K mg aREG aOPS) (L : PipC K C) (d : MetAt K C "send" "Pipe.send" s_Pipe__send) (c_ask_word : C8.Cal P w K mg base 4 "ask_word" (sp_askW K) []) : MetK P w K mg base 5 C "send" (sp_send C) ["word"] (fun vs zs => vs ++ zs) := by
  obtain ⟨f, fd, F, hc', hm⟩ := d
  have F : FunD K "send" "Pipe.send" (defArgs s_Pipe__send) (defBody s_Pipe__send) (defScope s_Pipe__send) [] [] f fd := F
  exact ⟨f, fd, ["self", "word"], fun us ws => us ++ ws, hc', hm, F.ok sc_Pipe__send (fun vs H Q E h => len_send h) (fun cdv A outer s H vs Q E hr h => let ⟨t, h1, h2⟩ := b_send T L c_ask_word f cdv A outer s H vs Q E hr h; ⟨t, h1.nox, h2⟩), kbn0 F (fun r1 r2 => r1.append r2) fun _ _ _ _ _ _ us ws h1 h2 => match us, ws, h1, h2 with | [_], [_], _, _ => rfl⟩
def sp_recv (C : Addr) : Sp := fun vs H Q _ => ∃ (o l : Addr) (room out : Nat) (ws : List Int) (R : List Cell), vs = [.ref o] ∧ Hd H (pipI C o room l out :: lstC l (ws.map V.int) :: R) ∧
  (ws = [] → ∀ H', Hd H' (pipI C o room l out :: lstC l (ws.map V.int) :: R) → Q .non H') ∧ (∀ x rest, ws = x :: rest → ∀ H', Hd H' (pipI C o room l (out + 1) :: lstC l (rest.map V.int) :: R) → Q (.int x) H')
theorem c_recv (T : Txt K mg aREG aOPS) (L : PipC K C) (d : MetAt K C "receive" "Pipe.receive" s_Pipe__receive) : C8.Met P w K mg base 1 C "receive" (sp_recv C) [] := by
  refine mkM d sc_Pipe__receive (fun _ _ _ _ _ _ us hl => match us, hl with | [_], _ => rfl) (fun vs H Q E h => ?_) (fun fa cdv A outer s H vs Q E hr h => ?_)
  · obtain ⟨o, l, room, out, ws, R, rfl, _⟩ := h
    rfl
  · obtain ⟨o, l, room, out, ws, R, rfl, hh, q1, q2⟩ := h
    refine ⟨_, (pss_cons (ps_if (pt_not (pt_truth (pe_fld (pv 0) rfl) (by intro _; rfl)))
    (pss_one (ps_ret pe_non))
    pss_nil)
  (pss_cons (ps_fldaug (pv 0) pe_int in_add)
  (pss_one (ps_ret (pe_bm PySem.F.plainAttrs_list PySem.F.slot_list_pop PySem.F.type_list_pop mt_popAt (pe_fld (pv 0) rfl) (pa_cons pe_int pa_nil)))))), ?_⟩
    have hc := L.cl
    have n2 := L.n2
    have n3 := L.n3
    cases ws with
    | nil =>
      walk_at "gs"
      refine ⟨_, .inl ⟨_, hh.sqL (by walk_at "mem"), rfl⟩, ?_⟩
      dsimp only
      walk_at "gs"
      exact q1 rfl _ hh
    | cons x rest =>
      walk_at "gs"
      refine ⟨_, .inl ⟨_, hh.sqL (by walk_at "mem"), rfl⟩, ?_⟩
      dsimp only
      walk_at "gs"
      refine g_fldaug rfl hh (by walk_at "pk") hc n3 rfl (by simp only [List.length_cons, List.length_nil]; omega) fun H2 h2 => ?_
      have h2 : Hd H2 (pipI C o room l (out + 1) :: lstC l ((x :: rest).map V.int) :: R) := hdCast h2 rfl
      clear hh
      walk_at "gs"
      refine g_popAt (n := 0) (y := .int x) h2 (by walk_at "pk") (by simp) (by decide) rfl fun H3 h3 => ?_
      exact q2 x rest rfl _ (show Hd H3 (pipI C o room l (out + 1) :: lstC l (rest.map V.int) :: R) from Hd.sb (L := lstC l (rest.map V.int) :: pipI C o room l (out + 1) :: R) h3 (by walk_at "sbx"))
/-! ### iteration -/
def PiG (C : Addr) (a l : Addr) (H : Hp) : Prop := ∃ dx room out, H a = some (.ins C dx (pipF room l out)) ∧ ∃ xs, H l = some (.lst xs)
theorem PiG.upd {C a l q : Addr} {H : Hp} {o : HO} (h : PiG C a l H) (hq : H q = none) : PiG C a l (upd H q o) := by
  obtain ⟨dx, room, out, ha, xs, hl⟩ := h
  exact ⟨dx, room, out, by rw [upd_ne (ne_of_none ha hq)]; exact ha, xs, by rw [upd_ne (ne_of_none hl hq)]; exact hl⟩
theorem c_iter {f : Addr} {fd : FuncData} (T : Txt K mg aREG aOPS) (b_iter : mg "iter" = none) (L : PipC K C) (F : DefM K "__iter__" "Pipe.__iter__" s_Pipe____iter__ [] f fd) (hI : ItrC K C f) : ItrK P w K mg base 1 C (PiG C) := by
  have F : FunD K "__iter__" "Pipe.__iter__" (defArgs s_Pipe____iter__) (defBody s_Pipe____iter__) (defScope s_Pipe____iter__) [] [] f fd := F
  have bd : Binds K fd ["self"] [] := F.bindsN fun _ _ _ _ _ _ us hl => match us, hl with | [_], _ => rfl
  obtain ⟨oc, od, dV, kV, doc, pm, an, cdv, ct, osl, rfl, lk, hcd, _, _⟩ := F.ex
  refine ⟨f, _, ["self"], hI, fn_ofZ lk hcd sc_Pipe____iter__ (fun n vs H Q E h => ?_) (fun A outer s H vs Q E hr h => ?_), bd⟩
  · obtain ⟨a, l, rfl, _⟩ := h
    rfl
  · obtain ⟨a, l, rfl, ⟨dx, room, out, ha, xs, hl⟩, q⟩ := h
    refine ⟨_, PSs.nox (pss_one (ps_ret (pe_callB ItX.call_iterN (by rfl) b_iter (by decide +kernel) (pa_cons (pe_fld (pv 0) rfl) pa_nil)))), ?_⟩
    walk_at "s"
    refine w_kfld ha L.cl L.n2 rfl ?_
    walk_at "s"
    exact ⟨l, xs, rfl, SqL.of hl, fun it h1 h2 => q it h1 h2⟩
end
end
end K45
set_option Elab.async false
set_option linter.all false
set_option maxRecDepth 100000
set_option maxHeartbeats 4000000
namespace K45
open PySem PySem.Spec PyProof.Rows L2 Wk
local macro_rules | `(tactic| walk_at "u1") => `(tactic| fail "no more")
local macro_rules | `(tactic| walk_at "pos") => `(tactic| first | assumption | omega | decide | (simp only [Int.ofNat_eq_natCast] at *; omega))
local macro_rules | `(tactic| walk_at "sz") => `(tactic| first
  | (simp only [List.length_cons, List.length_nil]; decide)
  | exact Evl.sz_of (by omega)
  | exact Evl.sz_lt (by omega)
  | exact Evl.sz_of (by simp only [List.length_map, List.length_append, List.length_cons, List.length_nil, List.length_replicate]; omega)
  | exact Evl.sz_lt (by simp only [List.length_map, List.length_append, List.length_cons, List.length_nil, List.length_replicate]; omega))
local macro_rules | `(tactic| walk_at "cond") => `(tactic| first
  | exact Or.inr ⟨by decide, by decide⟩
  | (show (0 : Int) < _; first | decide | assumption | omega)
  | exact Or.inl ⟨by omega, by omega⟩
  | exact Or.inr ⟨by omega, by omega⟩
  | exact ⟨by decide, by decide, by decide⟩
  | exact log2_lt (by omega) (by omega)
  | exact ⟨by omega, by omega⟩)
local macro_rules | `(tactic| walk_at "ty") => `(tactic| first
  | exact ty_int | exact ty_bl | exact ty_str | exact ty_non
  | exact ty_L (by assumption) | exact ty_T (by assumption)
  | exact ty_L (SqL.of (by assumption)) | exact ty_T (SqT.of (by assumption)))
local macro_rules | `(tactic| walk_at "kit") => `(tactic| first
  | exact k_ii | exact k_ib | exact k_is | exact k_il | exact k_it
  | exact k_bb | exact k_bi | exact k_bs | exact k_bl | exact k_bt
  | exact k_ss | exact k_sb | exact k_si | exact k_sl | exact k_st
  | exact k_ll | exact k_lb | exact k_li | exact k_ls | exact k_lt
  | exact k_tt | exact k_tb | exact k_ti | exact k_ts | exact k_tl
  | exact k_nn | exact k_ni | exact k_ns | exact k_nl | exact k_nt)
local macro_rules | `(tactic| walk_at "s1") => `(tactic| first
  | with_reducible refine w_seq ?_
  | with_reducible refine w_set ?_
  | with_reducible refine w_op ?_
  | ((with_reducible refine' w_var ?h1 ?_); (case h1 => rfl))
  | with_reducible refine w_c ?_
  | with_reducible refine w_cb ?_
  | with_reducible refine w_cons ?_
  | with_reducible refine w_nil ?_
  | with_reducible refine w_I0 ?_
  | ((with_reducible refine' w_I ?c1 ?_); case c1 => walk_at "cond")
  | with_reducible refine w_ret ?_
  | with_reducible refine w_next ?_
  | with_reducible refine w_ifS ?_
  | with_reducible refine w_test ?_
  | with_reducible refine w_tB ?_
  | with_reducible refine w_k ?_
  | with_reducible refine w_eqI ?_
  | with_reducible refine w_neI ?_
  | with_reducible refine w_eqS ?_
  | with_reducible refine w_neS ?_
  | with_reducible refine w_and ?_
  | with_reducible refine w_or ?_
  | with_reducible refine w_not ?_
  | with_reducible refine w_andV ?_
  | with_reducible refine w_orV ?_
  | with_reducible refine w_notV ?_
  | with_reducible refine w_ifE ?_
  | with_reducible refine w_true ?_
  | with_reducible refine w_false ?_
  | with_reducible refine w_ntrue ?_
  | with_reducible refine w_nfalse ?_
  | with_reducible refine w_call ?_
  | with_reducible refine c_int ?_
  | with_reducible refine c_abs ?_
  | with_reducible refine c_max ?_
  | with_reducible refine c_min ?_
  | with_reducible refine w_drop ?_
  | with_reducible refine w_sfld ?_
  | with_reducible refine w_meth ?_
  | with_reducible refine w_make ?_
  | with_reducible refine w_prop ?_
  | with_reducible refine w_callK ?_
  | with_reducible refine w_callN ?_
  | with_reducible refine w_star ?_
  | with_reducible refine w_gcons ?_
  | with_reducible refine w_gname ?_
  | with_reducible refine w_gnil ?_
  | with_reducible refine w_retN ?_
  | with_reducible refine w_tup ?_
  | with_reducible refine w_lst ?_
  | with_reducible refine w_fld ?_
  | with_reducible refine w_bm ?_
  | with_reducible refine w_bm0 ?_
  | with_reducible refine w_forL ?_
  | with_reducible refine w_forT ?_
  | with_reducible refine w_forS ?_
  | with_reducible refine w_forR ?_
  | with_reducible refine w_lcR ?_
  | with_reducible refine w_lcL ?_
  | with_reducible refine w_lcT ?_
  | with_reducible refine w_isN ?_
  | with_reducible refine w_notN ?_
  | with_reducible refine w_asg ?_
  | with_reducible refine w_gsub ?_
  | ((with_reducible refine' w_aug ?h1 ?_); (case h1 => rfl))
  | with_reducible refine w_augS ?_
  | with_reducible refine w_ipI ?_
  | with_reducible refine w_un ?_
  | with_reducible refine w_U ?_
  | ((with_reducible refine' w_iteF ?f1 ?_); case f1 => (first | (intro h; cases h; done) | decide))
  | ((with_reducible refine' w_iteT ?f1 ?_); case f1 => rfl)
  | ((with_reducible refine' w_iteNF ?f1 ?_); case f1 => rfl)
  | ((with_reducible refine' w_iteNT ?f1 ?_); case f1 => (first | (intro h; cases h; done) | decide))
  | ((with_reducible refine' c_isi ?t1 ?k1 ?_); (case t1 => walk_at "ty"); (case k1 => walk_at "kit"))
  | ((with_reducible refine' w_eq ?e1 ?_); case e1 => rfl)
  | ((with_reducible refine' w_ne ?e1 ?_); case e1 => rfl)
  | walk_at "u1")
local macro_rules | `(tactic| walk_at "s") => `(tactic| repeat walk_at "s1")
local macro_rules | `(tactic| walk_at "mem") => `(tactic| first | with_reducible exact List.mem_cons_self .. | ((with_reducible refine' List.mem_cons_of_mem _ ?q); (case q => walk_at "mem")) | assumption | ((with_reducible refine' List.mem_append_right _ ?q); (case q => walk_at "mem")) | (exact List.mem_append_left _ (by assumption)))
local macro_rules | `(tactic| walk_at "pk") => `(tactic| first | with_reducible exact Pk.here | ((with_reducible refine' Pk.there ?q); (case q => walk_at "pk")) | ((with_reducible refine' Pk.app ?q); (case q => walk_at "pk")))
local macro_rules | `(tactic| walk_at "pkb") => `(tactic| first | with_reducible exact PkB.here | ((with_reducible refine' PkB.there ?q); (case q => walk_at "pkb")) | ((with_reducible refine' PkB.app ?q); (case q => walk_at "pkb")))
local macro_rules | `(tactic| walk_at "spl") => `(tactic| first | with_reducible exact Spl.nil | ((with_reducible refine' Spl.cons ?h ?t); (case h => walk_at "pk"); (case t => walk_at "spl")) | ((with_reducible refine' Spl.blk ?h ?t); (case h => walk_at "pkb"); (case t => walk_at "spl")))
local macro_rules | `(tactic| walk_at "sbx") => `(tactic| first | with_reducible exact Sb.refl | with_reducible exact Sb.nil | with_reducible exact Sb.left | ((with_reducible refine' Sb.cons ?h ?t); (case h => walk_at "pk"); (case t => walk_at "sbx")) | ((with_reducible refine' Sb.blk ?h ?t); (case h => walk_at "pkb"); (case t => walk_at "sbx")) | ((with_reducible refine' Sb.drop ?q); (case q => walk_at "sbx")) | ((with_reducible refine' Sb.right ?q); (case q => walk_at "sbx")))
local macro_rules | `(tactic| walk_at "hd") => `(tactic| first | assumption | exact Hd.sb (by assumption) (by walk_at "sbx"))
local macro_rules | `(tactic| walk_at "sq") => `(tactic| first
  | assumption
  | exact Hd.sqL (by assumption) (by walk_at "mem")
  | exact Hd.sqT (by assumption) (by walk_at "mem")
  | exact Hd.sqF (by assumption) (by walk_at "mem")
  | (refine .inl ?_; walk_at "sq")
  | (refine .inr ?_; walk_at "sq"))
local macro_rules | `(tactic| walk_at "at") => `(tactic| first | rfl | assumption | exact atI_nat (by assumption))
local macro_rules | `(tactic| walk_at "dn1") => `(tactic| first
  | exact Dn.int | exact Dn.str | exact Dn.non | exact Dn.bl | assumption
  | ((refine' Dn.tp ?a1 ?m1 ?l1 ?p1); (case a1 => assumption); (case m1 => walk_at "mem"); (case l1 => (simp only [List.length_cons, List.length_nil]; omega)); (case p1 => walk_at "dns"))
  | ((refine' Dn.lt ?a1 ?m1 ?l1 ?p1); (case a1 => assumption); (case m1 => walk_at "mem"); (case l1 => (simp only [List.length_cons, List.length_nil]; omega)); (case p1 => walk_at "dns")))
local macro_rules | `(tactic| walk_at "dns") => `(tactic| first | exact Paired.nil | exact Dn.ints | ((refine' Paired.cons ?a1 ?b1); (case a1 => walk_at "dn1"); (case b1 => walk_at "dns")))
local macro_rules | `(tactic| walk_at "g1") => `(tactic| first
  | ((with_reducible refine' g_ixI ?h1 ?h2 ?h3 ?_); (case h1 => assumption); (case h2 => walk_at "mem"); (case h3 => omega); intro z hz)
  | ((with_reducible refine' g_ixIT ?h1 ?h2 ?h3 ?_); (case h1 => assumption); (case h2 => walk_at "mem"); (case h3 => omega); intro z hz)
  | ((with_reducible refine' g_setI ?h1 ?h2 ?h3 ?_); (case h1 => assumption); (case h2 => walk_at "pk"); (case h3 => omega); intro H2 hh2)
  | ((with_reducible refine' w_ixL ?h1 ?h2 ?_); (case h1 => walk_at "sq"); (case h2 => walk_at "at"))
  | ((with_reducible refine' w_ixT ?h1 ?h2 ?_); (case h1 => walk_at "sq"); (case h2 => walk_at "at"))
  | ((with_reducible refine' w_ixAny ?h1 ?h2 ?_); (case h1 => walk_at "sq"); (case h2 => walk_at "at"))
  | ((with_reducible refine' c_lenA ?h1 ?_); (case h1 => walk_at "sq"))
  | ((with_reducible refine' c_isi ?t1 ?k1 ?_); (case t1 => first | exact ty_T (by walk_at "sq") | exact ty_L (by walk_at "sq")); (case k1 => walk_at "kit"))
  | ((with_reducible refine' g_lst ?h1 ?h2 ?_); (case h1 => assumption); (case h2 => walk_at "sz"); intro p H2 hh2)
  | ((with_reducible refine' g_tup ?h1 ?h2 ?_); (case h1 => assumption); (case h2 => walk_at "sz"); intro p H2 hh2)
  | ((with_reducible refine' g_dict ?h1 ?_); (case h1 => assumption); intro p H2 hh2)
  | ((with_reducible refine' g_listL ?h1 ?h2 ?_); (case h1 => assumption); (case h2 => walk_at "sq"); intro p H2 hh2)
  | ((with_reducible refine' g_listT ?h1 ?h2 ?_); (case h1 => assumption); (case h2 => walk_at "sq"); intro p H2 hh2)
  | ((with_reducible refine' g_tupL ?h1 ?h2 ?_); (case h1 => assumption); (case h2 => walk_at "sq"); intro p H2 hh2)
  | ((with_reducible refine' g_set ?h1 ?h2 ?h3 ?_); (case h1 => assumption); (case h2 => walk_at "pk"); (case h3 => first | rfl | assumption | exact Evl.ixN_nat (by first | omega | (simp only [List.length_cons, List.length_nil]; omega))); intro H2 hh2)
  | ((with_reducible refine' g_kbm ?h1 ?h2 ?_); (case h1 => assumption); (case h2 => walk_at "mem"))
  | ((with_reducible refine' g_kbm0 ?h1 ?h2 ?_); (case h1 => assumption); (case h2 => walk_at "mem"))
  | ((with_reducible refine' g_app ?h1 ?h2 ?h3 ?_); (case h1 => assumption); (case h2 => walk_at "pk"); (case h3 => walk_at "sz"); intro H2 hh2)
  | ((with_reducible refine' g_kapp ?h1 ?h2 ?h3 ?_); (case h1 => assumption); (case h2 => walk_at "pk"); (case h3 => walk_at "sz"); intro H2 hh2)
  | ((with_reducible refine' g_fld ?h1 ?h2 ?h3 ?h4 ?h5 ?_); (case h1 => assumption); (case h2 => walk_at "mem"); (case h3 => assumption); (case h4 => assumption); (case h5 => rfl))
  | ((with_reducible refine' g_sfld ?h1 ?h2 ?h3 ?h4 ?h5 ?_); (case h1 => assumption); (case h2 => walk_at "pk"); (case h3 => assumption); (case h4 => assumption); (case h5 => decide); intro H2 hh2)
  | ((with_reducible refine' g_meth ?h1 ?h2 ?h3 ?_); (case h1 => assumption); (case h2 => walk_at "mem"); (case h3 => rfl))
  | ((with_reducible refine' g_prop ?h1 ?h2 ?_); (case h1 => assumption); (case h2 => walk_at "mem"))
  | ((with_reducible refine' g_make ?h1 ?_); (case h1 => assumption); intro x H2 hh2)
  | ((with_reducible refine' g_cat ?h1 ?h2 ?h3 ?h4 ?_); (case h1 => assumption); (case h2 => walk_at "mem"); (case h3 => walk_at "mem"); (case h4 => walk_at "sz"); intro p H2 hh2)
  | ((with_reducible refine' g_inT ?h1 ?h2 ?h3 ?h4 ?h5 ?_); (case h1 => assumption); (case h2 => walk_at "mem"); (case h3 => rfl); (case h4 => rfl); (case h5 => rfl)))
local macro_rules | `(tactic| walk_at "gs") => `(tactic| repeat first | walk_at "s1" | walk_at "g1")
local macro_rules | `(tactic| walk_at "ite") => `(tactic| first
  | ((with_reducible refine' w_iteT ?h1 ?_); (case h1 => omega))
  | ((with_reducible refine' w_iteF ?h1 ?_); (case h1 => omega))
  | (with_reducible refine w_ite ?_ ?_ <;> intro hq)
  | ((with_reducible refine' w_iteNT ?h1 ?_); (case h1 => omega))
  | ((with_reducible refine' w_iteNF ?h1 ?_); (case h1 => omega))
  | (with_reducible refine w_iteN ?_ ?_ <;> intro hq))
local macro_rules | `(tactic| walk_at "go") => `(tactic| repeat' first | walk_at "s1" | walk_at "g1" | walk_at "ite")
section
variable {P : Program} {w : World} {K : PySem.W.Frag} {mg : Str → Option Value} {base : Heap} {aREG aOPS : Addr}
/-! ### likeness of any two data -/
mutual
def alikeD : PyData → PyData → Bool
  | .none, .none => true
  | .bool a, .bool b => decide (a = b)
  | .int i, .int j => decide (i = j)
  | .str a, .str b => decide (a = b)
  | .list xs, .list ys => alikeL xs ys
  | .tuple xs, .tuple ys => alikeL xs ys
  | _, _ => false
def alikeL : List PyData → List PyData → Bool
  | [], [] => true
  | x :: xs, y :: ys => alikeD x y && alikeL xs ys
  | _, _ => false
end
theorem alikeL_len : ∀ {xs ys : List PyData}, xs.length ≠ ys.length → alikeL xs ys = false
  | [], [], h => absurd rfl h
  | [], _ :: _, _ => rfl
  | _ :: _, [], _ => rfl
  | x :: xs, y :: ys, h => by
    show (alikeD x y && alikeL xs ys) = false
    rw [alikeL_len fun z => h (congrArg (· + 1) z), Bool.and_false]
theorem alikeL_at : ∀ {xs ys : List PyData} {i : Nat} {x y : PyData}, xs[i]? = some x → ys[i]? = some y → alikeL (xs.drop i) (ys.drop i) = (alikeD x y && alikeL (xs.drop (i + 1)) (ys.drop (i + 1)))
  | _ :: _, _ :: _, 0, _, _, h1, h2 => by cases h1; cases h2; rfl
  | _ :: _, _ :: _, i + 1, _, _, h1, h2 => alikeL_at (i := i) h1 h2
  | [], _, i, _, _, h1, _ => by simp at h1
  | _ :: _, [], i, _, _, _, h2 => by simp at h2
theorem alikeL_no : ∀ (i : Nat) {xs ys : List PyData}, alikeL (xs.drop i) (ys.drop i) = false → xs.length = ys.length → alikeL xs ys = false
  | 0, _, _, h, _ => h
  | i + 1, [], [], h, _ => by simp [alikeL] at h
  | i + 1, x :: xs, y :: ys, h, hl => by
    show (alikeD x y && alikeL xs ys) = false
    rw [alikeL_no i (xs := xs) (ys := ys) h (Nat.succ.inj hl), Bool.and_false]
  | i + 1, [], _ :: _, _, hl => by cases hl
  | i + 1, _ :: _, [], _, hl => by cases hl
/-- the answer, whatever it is -/
def sp_alikeB (K : PySem.W.Frag) (n : Nat) : Sp := fun vs H Q _ => ∃ (v1 v2 : V) (d1 d2 : PyData), vs = [v1, v2] ∧ (match n with
  | 0 => False
  | n + 1 => Dn K [] H n v1 d1 ∧ Dn K [] H n v2 d2) ∧ Q (.bl (alikeD d1 d2)) H
theorem alikeB_step (n : Nat) (T : Txt K mg aREG aOPS) (d : DefAt K mg "_law_alike" s__law_alike) (c__law_alike : C8.Cal P w K mg base n "_law_alike" (sp_alikeB K n) []) : C8.Cal P w K mg base (n + 1) "_law_alike" (sp_alikeB K (n + 1)) [] := by
  refine mk d sc__law_alike (fun _ _ _ _ _ _ us hl => match us, hl with | [_, _], _ => rfl) (fun vs H Q E h => ?_) (fun f cdv A outer s H vs Q E hr h => ?_)
  · obtain ⟨v1, v2, d1, d2, rfl, _⟩ := h
    rfl
  · obtain ⟨v1, v2, d1, d2, rfl, hd, k⟩ := h
    refine ⟨_, (pss_cons (ps_if (PW.pt (pw_or (pt_cmpR op_isN1 (pv 0) pe_non (nomark _)) (pw_or1 (pt_cmpR op_isN1 (pv 1) pe_non (nomark _)))))
    (pss_one (ps_ret (pe_and (pe_cmpR op_isN1 (pv 0) pe_non (nomark _)) (pe_one (pe_cmpR op_isN1 (pv 1) pe_non (nomark _))))))
    pss_nil)
  (pss_cons (ps_if (PW.pt (pw_or (pt_val (pe_callB call_isi (by rfl) T.b_isinstance (by decide +kernel) (pa_cons (pv 0) (pa_cons (pe_bltn (v := .ty "bool") (by rfl) T.b_bool (by decide +kernel) rfl) pa_nil)))) (pw_or1 (pt_val (pe_callB call_isi (by rfl) T.b_isinstance (by decide +kernel) (pa_cons (pv 1) (pa_cons (pe_bltn (v := .ty "bool") (by rfl) T.b_bool (by decide +kernel) rfl) pa_nil)))))))
    (pss_one (ps_ret (pe_and (pe_callB call_isi (by rfl) T.b_isinstance (by decide +kernel) (pa_cons (pv 0) (pa_cons (pe_bltn (v := .ty "bool") (by rfl) T.b_bool (by decide +kernel) rfl) pa_nil))) (pe_and (pe_callB call_isi (by rfl) T.b_isinstance (by decide +kernel) (pa_cons (pv 1) (pa_cons (pe_bltn (v := .ty "bool") (by rfl) T.b_bool (by decide +kernel) rfl) pa_nil))) (pe_one (pe_cmpR op_eq (pv 0) (pv 1) (nomark _)))))))
    pss_nil)
  (pss_cons (ps_if (pt_val (pe_callB call_isi (by rfl) T.b_isinstance (by decide +kernel) (pa_cons (pv 0) (pa_cons (pe_bltn (v := .ty "int") (by rfl) T.b_int (by decide +kernel) rfl) pa_nil))))
    (pss_one (ps_ret (pe_and (pe_callB call_isi (by rfl) T.b_isinstance (by decide +kernel) (pa_cons (pv 1) (pa_cons (pe_bltn (v := .ty "int") (by rfl) T.b_int (by decide +kernel) rfl) pa_nil))) (pe_one (pe_cmpR op_eq (pv 0) (pv 1) (nomark _))))))
    pss_nil)
  (pss_cons (ps_if (pt_val (pe_callB call_isi (by rfl) T.b_isinstance (by decide +kernel) (pa_cons (pv 0) (pa_cons (pe_bltn (v := .ty "str") (by rfl) T.b_str (by decide +kernel) rfl) pa_nil))))
    (pss_one (ps_ret (pe_and (pe_callB call_isi (by rfl) T.b_isinstance (by decide +kernel) (pa_cons (pv 1) (pa_cons (pe_bltn (v := .ty "str") (by rfl) T.b_str (by decide +kernel) rfl) pa_nil))) (pe_one (pe_cmpR op_eq (pv 0) (pv 1) (nomark _))))))
    pss_nil)
  (pss_cons (ps_if (pt_val (pe_callB call_isi (by rfl) T.b_isinstance (by decide +kernel) (pa_cons (pv 0) (pa_cons (pe_bltn (v := .ty "list") (by rfl) T.b_list (by decide +kernel) rfl) pa_nil))))
    (pss_one (ps_if (pt_not (pt_val (pe_callB call_isi (by rfl) T.b_isinstance (by decide +kernel) (pa_cons (pv 1) (pa_cons (pe_bltn (v := .ty "list") (by rfl) T.b_list (by decide +kernel) rfl) pa_nil)))))
        (pss_one (ps_ret pe_bl))
        pss_nil))
    (pss_one (ps_if (PW.pt (pw_or (pt_not (pt_val (pe_callB call_isi (by rfl) T.b_isinstance (by decide +kernel) (pa_cons (pv 0) (pa_cons (pe_bltn (v := .ty "tuple") (by rfl) T.b_tuple (by decide +kernel) rfl) pa_nil))))) (pw_or1 (pt_not (pt_val (pe_callB call_isi (by rfl) T.b_isinstance (by decide +kernel) (pa_cons (pv 1) (pa_cons (pe_bltn (v := .ty "tuple") (by rfl) T.b_tuple (by decide +kernel) rfl) pa_nil))))))))
        (pss_one (ps_ret pe_bl))
        pss_nil)))
  (pss_cons (ps_if (pt_cmpR op_ne (pe_callB Wk.b_len (by rfl) T.b_len (by decide +kernel) (pa_cons (pv 0) pa_nil)) (pe_callB Wk.b_len (by rfl) T.b_len (by decide +kernel) (pa_cons (pv 1) pa_nil)) (nomark _))
    (pss_one (ps_ret pe_bl))
    pss_nil)
  (pss_cons (ps_for PassesOwn.never rfl (pi_range1 rfl T.b_range (pa_cons (pe_callB Wk.b_len (by rfl) T.b_len (by decide +kernel) (pa_cons (pv 0) pa_nil)) pa_nil)) (pg_name (i := 2) sc__law_alike.nd rfl (Or.inl rfl))
    (pss_one (ps_if (pt_not (pt_val (C8.pe_c c__law_alike hr (by first | decide | omega) rfl (pa_cons (pe_ix ix_seq (pv 0) (pv 2) (fun _ _ => rfl)) (pa_cons (pe_ix ix_seq (pv 1) (pv 2) (fun _ _ => rfl)) pa_nil)))))
        (pss_one (ps_ret pe_bl))
        pss_nil)))
  (pss_one (ps_ret pe_bl))))))))), ?_⟩
    have kind : ∀ {v : V} {d : PyData}, Dn K [] H n v d → Sc v d ∨ ∃ m a xs ds, n = m + 1 ∧ v = .ref a ∧ xs.length ≤ 100000 ∧ Paired (Dn K [] H m) xs ds ∧ ((SqL K H a xs ∧ d = .list ds) ∨ (SqT K H a xs ∧ d = .tuple ds)) := fun {v d} h => by
      cases n with
      | zero => exact .inl h
      | succ m =>
        rcases h with h1 | ⟨a, xs, ds, e1, e2, _, hq, hl, p⟩ | ⟨a, xs, ds, e1, e2, _, hq, hl, p⟩
        · exact .inl h1
        · exact .inr ⟨m, a, xs, ds, rfl, e1, hl, p, .inl ⟨hq, e2⟩⟩
        · exact .inr ⟨m, a, xs, ds, rfl, e1, hl, p, .inr ⟨hq, e2⟩⟩
    have k1 := kind hd.1
    have k2 := kind hd.2
    clear hd kind
    rcases k1 with h1 | ⟨m, a1, xs, ds, rfl, rfl, hl1, p1, ⟨q1, rfl⟩ | ⟨q1, rfl⟩⟩
    · rcases k2 with h2 | ⟨m, a2, ys, es, rfl, rfl, hl2, p2, ⟨q2, rfl⟩ | ⟨q2, rfl⟩⟩
      · cases h1 <;> cases h2 <;> walk_at "s" <;> first | exact k | (rename_i b1 b2; cases b1 <;> cases b2 <;> exact k)
      · cases h1 <;> walk_at "s" <;> first | exact k | done
      · cases h1 <;> walk_at "s" <;> first | exact k | done
    · rcases k2 with h2 | ⟨m2, a2, ys, es, e2, rfl, hl2, p2, ⟨q2, rfl⟩ | ⟨q2, rfl⟩⟩
      · cases h2 <;> walk_at "s" <;> exact k
      · obtain rfl : m2 = m := by omega
        have ld := p1.length
        have le := p2.length
        have k : Q (V.bl (alikeL ds es)) H := k
        have hx : SqL K H a1 xs ∨ SqT K H a1 xs := by first | exact .inl q1 | exact .inr q1
        have hy : SqL K H a2 ys ∨ SqT K H a2 ys := by first | exact .inl q2 | exact .inr q2
        walk_at "s"
        refine c_lenA hx ?_
        walk_at "s"
        refine c_lenA hy ?_
        walk_at "s"
        refine w_iteN (fun el => ?_) (fun el => ?_)
        · walk_at "s"
          rw [alikeL_len (by omega)] at k
          exact k
        · walk_at "s"
          refine c_lenA hx ?_
          walk_at "s"
          refine l_range rfl (by omega) (fun i σ H2 => H2 = H ∧ alikeL (ds.drop i) (es.drop i) = alikeL ds es ∧ ∃ v, σ = [some (.ref a1), some (.ref a2), v]) ⟨rfl, rfl, none, rfl⟩ ?_ ?_
          · rintro i σ H2 hi ⟨rfl, hal, v, rfl⟩
            obtain ⟨d0, hd0, z1⟩ := paired_at p1 (List.getElem?_eq_getElem hi)
            obtain ⟨e0, he0, z2⟩ := paired_at p2 (List.getElem?_eq_getElem (by omega : i < ys.length))
            rw [alikeL_at hd0 he0] at hal
            walk_at "s"
            refine w_ixAny hx (atI_nat (List.getElem?_eq_getElem hi)) ?_
            walk_at "s"
            refine w_ixAny hy (atI_nat (List.getElem?_eq_getElem (by omega : i < ys.length))) ?_
            walk_at "s"
            refine ⟨_, _, d0, e0, rfl, ⟨z1, z2⟩, ?_⟩
            cases hb : alikeD d0 e0 with
            | true =>
              rw [hb, Bool.true_and] at hal
              walk_at "s"
              exact ⟨rfl, hal, _, rfl⟩
            | false =>
              rw [hb, Bool.false_and] at hal
              walk_at "s"
              rw [← hal] at k
              exact k
          · rintro σ H2 ⟨rfl, hal, v, rfl⟩
            walk_at "s"
            rw [← hal, List.drop_eq_nil_of_le (by omega), List.drop_eq_nil_of_le (by omega)] at k
            exact k
      · walk_at "s"
        exact k
    · rcases k2 with h2 | ⟨m2, a2, ys, es, e2, rfl, hl2, p2, ⟨q2, rfl⟩ | ⟨q2, rfl⟩⟩
      · cases h2 <;> walk_at "s" <;> exact k
      · walk_at "s"
        exact k
      · obtain rfl : m2 = m := by omega
        have ld := p1.length
        have le := p2.length
        have k : Q (V.bl (alikeL ds es)) H := k
        have hx : SqL K H a1 xs ∨ SqT K H a1 xs := by first | exact .inl q1 | exact .inr q1
        have hy : SqL K H a2 ys ∨ SqT K H a2 ys := by first | exact .inl q2 | exact .inr q2
        walk_at "s"
        refine c_lenA hx ?_
        walk_at "s"
        refine c_lenA hy ?_
        walk_at "s"
        refine w_iteN (fun el => ?_) (fun el => ?_)
        · walk_at "s"
          rw [alikeL_len (by omega)] at k
          exact k
        · walk_at "s"
          refine c_lenA hx ?_
          walk_at "s"
          refine l_range rfl (by omega) (fun i σ H2 => H2 = H ∧ alikeL (ds.drop i) (es.drop i) = alikeL ds es ∧ ∃ v, σ = [some (.ref a1), some (.ref a2), v]) ⟨rfl, rfl, none, rfl⟩ ?_ ?_
          · rintro i σ H2 hi ⟨rfl, hal, v, rfl⟩
            obtain ⟨d0, hd0, z1⟩ := paired_at p1 (List.getElem?_eq_getElem hi)
            obtain ⟨e0, he0, z2⟩ := paired_at p2 (List.getElem?_eq_getElem (by omega : i < ys.length))
            rw [alikeL_at hd0 he0] at hal
            walk_at "s"
            refine w_ixAny hx (atI_nat (List.getElem?_eq_getElem hi)) ?_
            walk_at "s"
            refine w_ixAny hy (atI_nat (List.getElem?_eq_getElem (by omega : i < ys.length))) ?_
            walk_at "s"
            refine ⟨_, _, d0, e0, rfl, ⟨z1, z2⟩, ?_⟩
            cases hb : alikeD d0 e0 with
            | true =>
              rw [hb, Bool.true_and] at hal
              walk_at "s"
              exact ⟨rfl, hal, _, rfl⟩
            | false =>
              rw [hb, Bool.false_and] at hal
              walk_at "s"
              rw [← hal] at k
              exact k
          · rintro σ H2 ⟨rfl, hal, v, rfl⟩
            walk_at "s"
            rw [← hal, List.drop_eq_nil_of_le (by omega), List.drop_eq_nil_of_le (by omega)] at k
            exact k
theorem c_alikeB (T : Txt K mg aREG aOPS) (d : DefAt K mg "_law_alike" s__law_alike) : ∀ n : Nat, C8.Cal P w K mg base n "_law_alike" (sp_alikeB K n) []
  | 0 => cal_false (ps := ["one", "two"]) d (fun _ _ _ _ _ _ us hl => match us, hl with | [_, _], _ => rfl) fun vs H Q E ⟨_, _, _, _, _, z, _⟩ => z
  | n + 1 => alikeB_step n T d (c_alikeB T d n)
theorem g_alikeB {n : Nat} {v1 v2 : V} {d1 d2 : PyData} {H : Hp} {Q : VK} {E : XK} (h1 : Dn K [] H n v1 d1) (h2 : Dn K [] H n v2 d2) (q : Q (.bl (alikeD d1 d2)) H) : sp_alikeB K (n + 1) [v1, v2] H Q E := ⟨v1, v2, d1, d2, rfl, ⟨h1, h2⟩, q⟩
end
end K45
set_option Elab.async false
set_option linter.all false
set_option maxRecDepth 100000
set_option maxHeartbeats 4000000
namespace K45
open PySem PySem.Spec PyProof.Rows L2 Wk
local macro_rules | `(tactic| walk_at "u1") => `(tactic| fail "no more")
local macro_rules | `(tactic| walk_at "pos") => `(tactic| first | assumption | omega | decide | (simp only [Int.ofNat_eq_natCast] at *; omega))
local macro_rules | `(tactic| walk_at "sz") => `(tactic| first
  | (simp only [List.length_cons, List.length_nil]; decide)
  | exact Evl.sz_of (by omega)
  | exact Evl.sz_lt (by omega)
  | exact Evl.sz_of (by simp only [List.length_map, List.length_append, List.length_cons, List.length_nil, List.length_replicate]; omega)
  | exact Evl.sz_lt (by simp only [List.length_map, List.length_append, List.length_cons, List.length_nil, List.length_replicate]; omega))
local macro_rules | `(tactic| walk_at "cond") => `(tactic| first
  | exact Or.inr ⟨by decide, by decide⟩
  | (show (0 : Int) < _; first | decide | assumption | omega)
  | exact Or.inl ⟨by omega, by omega⟩
  | exact Or.inr ⟨by omega, by omega⟩
  | exact ⟨by decide, by decide, by decide⟩
  | exact log2_lt (by omega) (by omega)
  | exact ⟨by omega, by omega⟩)
local macro_rules | `(tactic| walk_at "ty") => `(tactic| first
  | exact ty_int | exact ty_bl | exact ty_str | exact ty_non
  | exact ty_L (by assumption) | exact ty_T (by assumption)
  | exact ty_L (SqL.of (by assumption)) | exact ty_T (SqT.of (by assumption)))
local macro_rules | `(tactic| walk_at "kit") => `(tactic| first
  | exact k_ii | exact k_ib | exact k_is | exact k_il | exact k_it
  | exact k_bb | exact k_bi | exact k_bs | exact k_bl | exact k_bt
  | exact k_ss | exact k_sb | exact k_si | exact k_sl | exact k_st
  | exact k_ll | exact k_lb | exact k_li | exact k_ls | exact k_lt
  | exact k_tt | exact k_tb | exact k_ti | exact k_ts | exact k_tl
  | exact k_nn | exact k_ni | exact k_ns | exact k_nl | exact k_nt)
local macro_rules | `(tactic| walk_at "s1") => `(tactic| first
  | with_reducible refine w_seq ?_
  | with_reducible refine w_set ?_
  | with_reducible refine w_op ?_
  | ((with_reducible refine' w_var ?h1 ?_); (case h1 => rfl))
  | with_reducible refine w_c ?_
  | with_reducible refine w_cb ?_
  | with_reducible refine w_cons ?_
  | with_reducible refine w_nil ?_
  | with_reducible refine w_I0 ?_
  | ((with_reducible refine' w_I ?c1 ?_); case c1 => walk_at "cond")
  | with_reducible refine w_ret ?_
  | with_reducible refine w_next ?_
  | with_reducible refine w_ifS ?_
  | with_reducible refine w_test ?_
  | with_reducible refine w_tB ?_
  | with_reducible refine w_k ?_
  | with_reducible refine w_eqI ?_
  | with_reducible refine w_neI ?_
  | with_reducible refine w_eqS ?_
  | with_reducible refine w_neS ?_
  | with_reducible refine w_and ?_
  | with_reducible refine w_or ?_
  | with_reducible refine w_not ?_
  | with_reducible refine w_andV ?_
  | with_reducible refine w_orV ?_
  | with_reducible refine w_notV ?_
  | with_reducible refine w_ifE ?_
  | with_reducible refine w_true ?_
  | with_reducible refine w_false ?_
  | with_reducible refine w_ntrue ?_
  | with_reducible refine w_nfalse ?_
  | with_reducible refine w_call ?_
  | with_reducible refine c_int ?_
  | with_reducible refine c_abs ?_
  | with_reducible refine c_max ?_
  | with_reducible refine c_min ?_
  | with_reducible refine w_drop ?_
  | with_reducible refine w_sfld ?_
  | with_reducible refine w_meth ?_
  | with_reducible refine w_make ?_
  | with_reducible refine w_prop ?_
  | with_reducible refine w_callK ?_
  | with_reducible refine w_callN ?_
  | with_reducible refine w_star ?_
  | with_reducible refine w_gcons ?_
  | with_reducible refine w_gname ?_
  | with_reducible refine w_gnil ?_
  | with_reducible refine w_retN ?_
  | with_reducible refine w_tup ?_
  | with_reducible refine w_lst ?_
  | with_reducible refine w_fld ?_
  | with_reducible refine w_bm ?_
  | with_reducible refine w_bm0 ?_
  | with_reducible refine w_forL ?_
  | with_reducible refine w_forT ?_
  | with_reducible refine w_forS ?_
  | with_reducible refine w_forR ?_
  | with_reducible refine w_lcR ?_
  | with_reducible refine w_lcL ?_
  | with_reducible refine w_lcT ?_
  | with_reducible refine w_isN ?_
  | with_reducible refine w_notN ?_
  | with_reducible refine w_asg ?_
  | with_reducible refine w_gsub ?_
  | ((with_reducible refine' w_aug ?h1 ?_); (case h1 => rfl))
  | with_reducible refine w_augS ?_
  | with_reducible refine w_ipI ?_
  | with_reducible refine w_un ?_
  | with_reducible refine w_U ?_
  | ((with_reducible refine' w_iteF ?f1 ?_); case f1 => (first | (intro h; cases h; done) | decide))
  | ((with_reducible refine' w_iteT ?f1 ?_); case f1 => rfl)
  | ((with_reducible refine' w_iteNF ?f1 ?_); case f1 => rfl)
  | ((with_reducible refine' w_iteNT ?f1 ?_); case f1 => (first | (intro h; cases h; done) | decide))
  | ((with_reducible refine' c_isi ?t1 ?k1 ?_); (case t1 => walk_at "ty"); (case k1 => walk_at "kit"))
  | ((with_reducible refine' w_eq ?e1 ?_); case e1 => rfl)
  | ((with_reducible refine' w_ne ?e1 ?_); case e1 => rfl)
  | walk_at "u1")
local macro_rules | `(tactic| walk_at "s") => `(tactic| repeat walk_at "s1")
local macro_rules | `(tactic| walk_at "mem") => `(tactic| first | with_reducible exact List.mem_cons_self .. | ((with_reducible refine' List.mem_cons_of_mem _ ?q); (case q => walk_at "mem")) | assumption | ((with_reducible refine' List.mem_append_right _ ?q); (case q => walk_at "mem")) | (exact List.mem_append_left _ (by assumption)))
local macro_rules | `(tactic| walk_at "pk") => `(tactic| first | with_reducible exact Pk.here | ((with_reducible refine' Pk.there ?q); (case q => walk_at "pk")) | ((with_reducible refine' Pk.app ?q); (case q => walk_at "pk")))
local macro_rules | `(tactic| walk_at "pkb") => `(tactic| first | with_reducible exact PkB.here | ((with_reducible refine' PkB.there ?q); (case q => walk_at "pkb")) | ((with_reducible refine' PkB.app ?q); (case q => walk_at "pkb")))
local macro_rules | `(tactic| walk_at "spl") => `(tactic| first | with_reducible exact Spl.nil | ((with_reducible refine' Spl.cons ?h ?t); (case h => walk_at "pk"); (case t => walk_at "spl")) | ((with_reducible refine' Spl.blk ?h ?t); (case h => walk_at "pkb"); (case t => walk_at "spl")))
local macro_rules | `(tactic| walk_at "sbx") => `(tactic| first | with_reducible exact Sb.refl | with_reducible exact Sb.nil | with_reducible exact Sb.left | ((with_reducible refine' Sb.cons ?h ?t); (case h => walk_at "pk"); (case t => walk_at "sbx")) | ((with_reducible refine' Sb.blk ?h ?t); (case h => walk_at "pkb"); (case t => walk_at "sbx")) | ((with_reducible refine' Sb.drop ?q); (case q => walk_at "sbx")) | ((with_reducible refine' Sb.right ?q); (case q => walk_at "sbx")))
local macro_rules | `(tactic| walk_at "hd") => `(tactic| first | assumption | exact Hd.sb (by assumption) (by walk_at "sbx"))
local macro_rules | `(tactic| walk_at "sq") => `(tactic| first
  | assumption
  | exact Hd.sqL (by assumption) (by walk_at "mem")
  | exact Hd.sqT (by assumption) (by walk_at "mem")
  | exact Hd.sqF (by assumption) (by walk_at "mem")
  | (refine .inl ?_; walk_at "sq")
  | (refine .inr ?_; walk_at "sq"))
local macro_rules | `(tactic| walk_at "at") => `(tactic| first | rfl | assumption | exact atI_nat (by assumption))
local macro_rules | `(tactic| walk_at "dn1") => `(tactic| first
  | exact Dn.int | exact Dn.str | exact Dn.non | exact Dn.bl | assumption
  | ((refine' Dn.tp ?a1 ?m1 ?l1 ?p1); (case a1 => assumption); (case m1 => walk_at "mem"); (case l1 => (simp only [List.length_cons, List.length_nil]; omega)); (case p1 => walk_at "dns"))
  | ((refine' Dn.lt ?a1 ?m1 ?l1 ?p1); (case a1 => assumption); (case m1 => walk_at "mem"); (case l1 => (simp only [List.length_cons, List.length_nil]; omega)); (case p1 => walk_at "dns")))
local macro_rules | `(tactic| walk_at "dns") => `(tactic| first | exact Paired.nil | exact Dn.ints | ((refine' Paired.cons ?a1 ?b1); (case a1 => walk_at "dn1"); (case b1 => walk_at "dns")))
local macro_rules | `(tactic| walk_at "g1") => `(tactic| first
  | ((with_reducible refine' g_ixI ?h1 ?h2 ?h3 ?_); (case h1 => assumption); (case h2 => walk_at "mem"); (case h3 => omega); intro z hz)
  | ((with_reducible refine' g_ixIT ?h1 ?h2 ?h3 ?_); (case h1 => assumption); (case h2 => walk_at "mem"); (case h3 => omega); intro z hz)
  | ((with_reducible refine' g_setI ?h1 ?h2 ?h3 ?_); (case h1 => assumption); (case h2 => walk_at "pk"); (case h3 => omega); intro H2 hh2)
  | ((with_reducible refine' w_ixL ?h1 ?h2 ?_); (case h1 => walk_at "sq"); (case h2 => walk_at "at"))
  | ((with_reducible refine' w_ixT ?h1 ?h2 ?_); (case h1 => walk_at "sq"); (case h2 => walk_at "at"))
  | ((with_reducible refine' w_ixAny ?h1 ?h2 ?_); (case h1 => walk_at "sq"); (case h2 => walk_at "at"))
  | ((with_reducible refine' c_lenA ?h1 ?_); (case h1 => walk_at "sq"))
  | ((with_reducible refine' c_isi ?t1 ?k1 ?_); (case t1 => first | exact ty_T (by walk_at "sq") | exact ty_L (by walk_at "sq")); (case k1 => walk_at "kit"))
  | ((with_reducible refine' g_lst ?h1 ?h2 ?_); (case h1 => assumption); (case h2 => walk_at "sz"); intro p H2 hh2)
  | ((with_reducible refine' g_tup ?h1 ?h2 ?_); (case h1 => assumption); (case h2 => walk_at "sz"); intro p H2 hh2)
  | ((with_reducible refine' g_dict ?h1 ?_); (case h1 => assumption); intro p H2 hh2)
  | ((with_reducible refine' g_listL ?h1 ?h2 ?_); (case h1 => assumption); (case h2 => walk_at "sq"); intro p H2 hh2)
  | ((with_reducible refine' g_listT ?h1 ?h2 ?_); (case h1 => assumption); (case h2 => walk_at "sq"); intro p H2 hh2)
  | ((with_reducible refine' g_tupL ?h1 ?h2 ?_); (case h1 => assumption); (case h2 => walk_at "sq"); intro p H2 hh2)
  | ((with_reducible refine' g_set ?h1 ?h2 ?h3 ?_); (case h1 => assumption); (case h2 => walk_at "pk"); (case h3 => first | rfl | assumption | exact Evl.ixN_nat (by first | omega | (simp only [List.length_cons, List.length_nil]; omega))); intro H2 hh2)
  | ((with_reducible refine' g_kbm ?h1 ?h2 ?_); (case h1 => assumption); (case h2 => walk_at "mem"))
  | ((with_reducible refine' g_kbm0 ?h1 ?h2 ?_); (case h1 => assumption); (case h2 => walk_at "mem"))
  | ((with_reducible refine' g_app ?h1 ?h2 ?h3 ?_); (case h1 => assumption); (case h2 => walk_at "pk"); (case h3 => walk_at "sz"); intro H2 hh2)
  | ((with_reducible refine' g_kapp ?h1 ?h2 ?h3 ?_); (case h1 => assumption); (case h2 => walk_at "pk"); (case h3 => walk_at "sz"); intro H2 hh2)
  | ((with_reducible refine' g_fld ?h1 ?h2 ?h3 ?h4 ?h5 ?_); (case h1 => assumption); (case h2 => walk_at "mem"); (case h3 => assumption); (case h4 => assumption); (case h5 => rfl))
  | ((with_reducible refine' g_sfld ?h1 ?h2 ?h3 ?h4 ?h5 ?_); (case h1 => assumption); (case h2 => walk_at "pk"); (case h3 => assumption); (case h4 => assumption); (case h5 => decide); intro H2 hh2)
  | ((with_reducible refine' g_meth ?h1 ?h2 ?h3 ?_); (case h1 => assumption); (case h2 => walk_at "mem"); (case h3 => rfl))
  | ((with_reducible refine' g_prop ?h1 ?h2 ?_); (case h1 => assumption); (case h2 => walk_at "mem"))
  | ((with_reducible refine' g_make ?h1 ?_); (case h1 => assumption); intro x H2 hh2)
  | ((with_reducible refine' g_cat ?h1 ?h2 ?h3 ?h4 ?_); (case h1 => assumption); (case h2 => walk_at "mem"); (case h3 => walk_at "mem"); (case h4 => walk_at "sz"); intro p H2 hh2)
  | ((with_reducible refine' g_inT ?h1 ?h2 ?h3 ?h4 ?h5 ?_); (case h1 => assumption); (case h2 => walk_at "mem"); (case h3 => rfl); (case h4 => rfl); (case h5 => rfl)))
local macro_rules | `(tactic| walk_at "gs") => `(tactic| repeat first | walk_at "s1" | walk_at "g1")
local macro_rules | `(tactic| walk_at "ite") => `(tactic| first
  | ((with_reducible refine' w_iteT ?h1 ?_); (case h1 => omega))
  | ((with_reducible refine' w_iteF ?h1 ?_); (case h1 => omega))
  | (with_reducible refine w_ite ?_ ?_ <;> intro hq)
  | ((with_reducible refine' w_iteNT ?h1 ?_); (case h1 => omega))
  | ((with_reducible refine' w_iteNF ?h1 ?_); (case h1 => omega))
  | (with_reducible refine w_iteN ?_ ?_ <;> intro hq))
local macro_rules | `(tactic| walk_at "go") => `(tactic| repeat' first | walk_at "s1" | walk_at "g1" | walk_at "ite")
local macro_rules | `(tactic| walk_at "g1") => `(tactic| first
  | ((with_reducible refine' g_take1 ?h1 ?h2 ?h3 ?h4 ?_); (case h1 => assumption); (case h2 => walk_at "spl"); (case h3 => omega); (case h4 => omega); intro k H2 hk1 hh2)
  | ((with_reducible refine' g_take ?h1 ?h2 ?h4 ?_); (case h1 => assumption); (case h2 => walk_at "spl"); (case h4 => omega); intro k H2 hk1 hh2)
  | ((with_reducible refine' g_betweenN ?h1 ?h2 ?h5 ?h3 ?h4 ?_); (case h1 => assumption); (case h2 => walk_at "spl"); (case h5 => omega); (case h3 => omega); (case h4 => omega); intro k H2 hk1 hk2 hh2)
  | ((with_reducible refine' g_between ?h1 ?h2 ?h3 ?h4 ?_); (case h1 => assumption); (case h2 => walk_at "spl"); (case h3 => omega); (case h4 => omega); intro k H2 hk1 hk2 hh2)
  | ((with_reducible refine' g_size ?h1 ?h2 ?h3 ?h4 ?_); (case h1 => assumption); (case h2 => walk_at "spl"); (case h3 => omega); (case h4 => omega); intro k H2 hk1 hh2)
  | ((with_reducible refine' g_word ?h1 ?h2 ?_); (case h1 => assumption); (case h2 => walk_at "spl"); intro k H2 hk1 hh2))
section
variable {P : Program} {w : World} {K : PySem.W.Frag} {mg : Str → Option Value} {base : Heap} {aREG aOPS : Addr}
/-- v is no integer from lo to hi; what it is made of stands in Z -/
def WrongD (K : PySem.W.Frag) (Z : List Cell) (lo hi : Int) (v : V) : Prop := isR v lo hi = false ∧ ∃ d, Zc K Z 1 v d
def sp_wrongD (K : PySem.W.Frag) : Sp := fun vs H Q _ => ∃ (st c : Addr) (lo hi : Int) (R : List Cell), vs = [.ref st, .int lo, .int hi] ∧ 0 ≤ lo ∧ lo ≤ hi ∧ hi ≤ 65535 ∧ Hd H (stoC st c :: scrC c :: R) ∧
  ∀ (v : V) (Z : List Cell) (H' : Hp), WrongD K Z lo hi v → Hd H' (stoC st c :: scrC c :: (Z ++ R)) → Q v H'
theorem g_wrongD {st c : Addr} {lo hi : Int} {H : Hp} {L R : List Cell} {Q : VK} {E : XK} (hh : Hd H L) (s : Spl L [stoC st c, scrC c] R) (h0 : 0 ≤ lo) (h1 : lo ≤ hi) (h2 : hi ≤ 65535) (q : ∀ (v : V) (Z : List Cell) (H' : Hp), WrongD K Z lo hi v → Hd H' (stoC st c :: scrC c :: (Z ++ R)) → Q v H') : sp_wrongD K [.ref st, .int lo, .int hi] H Q E :=
  ⟨st, c, lo, hi, R, rfl, h0, h1, h2, hh.spl s, q⟩
theorem c_wrongD (T : Txt K mg aREG aOPS) (d : DefAt K mg "_law_wrong_integer" s__law_wrong_integer) (c__law_take : C8.Cal P w K mg base 2 "_law_take" sp_take []) (c__law_pick : C8.Cal P w K mg base 3 "_law_pick" (sp_pick K) []) : C8.Cal P w K mg base 4 "_law_wrong_integer" (sp_wrongD K) [] := by
  refine mk d sc__law_wrong_integer (fun _ _ _ _ _ _ us hl => match us, hl with | [_, _, _], _ => rfl) (fun vs H Q E h => ?_) (fun fa cdv A outer s H vs Q E hr h => ?_)
  · obtain ⟨st, c, lo, hi, R, rfl, _⟩ := h
    rfl
  · obtain ⟨st, c, lo, hi, R, rfl, h0, h1, h2, hh, q⟩ := h
    refine ⟨_, (pss_cons (ps_set (i := 3) sc__law_wrong_integer.nd rfl (Or.inl rfl) (pe_lst (pa_cons (pe_op op_sub (pv 1) pe_int) (pa_cons (pe_op op_add (pv 2) pe_int) (pa_cons (pe_un un_neg pe_int) (pa_cons pe_int pa_nil))))))
  (pss_cons (ps_set (i := 4) sc__law_wrong_integer.nd rfl (Or.inl rfl) (pe_lst (pa_cons pe_bl (pa_cons pe_bl (pa_cons pe_non (pa_cons (pe_callTy call_str_int (by rfl) T.b_str (by decide +kernel) (pa_cons (pv 1) pa_nil)) (pa_cons pe_str (pa_cons pe_str (pa_cons (pe_lst pa_nil) (pa_cons (pe_lst (pa_cons (pv 1) pa_nil)) (pa_cons (pe_tup (pa_cons (pv 2) pa_nil)) (pa_cons (pe_tup pa_nil) pa_nil))))))))))))
  (pss_cons (ps_if (pt_cmpR op_eq (C8.pe_c c__law_take hr (by first | decide | omega) rfl (pa_cons (pv 0) (pa_cons pe_int pa_nil))) pe_int (nomark _))
    (pss_one (ps_ret (C8.pe_c c__law_pick hr (by first | decide | omega) rfl (pa_cons (pv 0) (pa_cons (pv 3) pa_nil)))))
    pss_nil)
  (pss_one (ps_ret (C8.pe_c c__law_pick hr (by first | decide | omega) rfl (pa_cons (pv 0) (pa_cons (pv 4) pa_nil)))))))), ?_⟩
    walk_at "go"
    have lg : lo.natAbs.log2 < 1920 := by
      rcases Nat.eq_zero_or_pos lo.natAbs with z | z
      · rw [z]; decide
      · exact Nat.lt_trans ((Nat.log2_lt (by omega)).mpr (show lo.natAbs < 2 ^ 17 by omega)) (by decide)
    refine ⟨lo, rfl, lg, ?_⟩
    walk_at "go"
    · refine g_pick (by assumption) (by walk_at "spl") (by walk_at "mem") (by simp) (by simp) fun v H4 hv h4 => ?_
      refine q v [_, _, _, _, _, _] H4 ?_ h4
      simp only [List.mem_cons, List.not_mem_nil, or_false] at hv
      rcases hv with rfl | rfl | rfl | rfl
      all_goals exact ⟨decide_eq_false (by omega), _, fun H hz => Dn.int⟩
    · refine g_pick (by assumption) (by walk_at "spl") (by walk_at "mem") (by simp) (by simp) fun v H4 hv h4 => ?_
      refine q v [_, _, _, _, _, _] H4 ?_ h4
      simp only [List.mem_cons, List.not_mem_nil, or_false] at hv
      rcases hv with rfl | rfl | rfl | rfl | rfl | rfl | rfl | rfl | rfl | rfl
      · exact ⟨rfl, _, fun H hz => Dn.bl⟩
      · exact ⟨rfl, _, fun H hz => Dn.bl⟩
      · exact ⟨rfl, _, fun H hz => Dn.non⟩
      · exact ⟨rfl, _, fun H hz => Dn.str⟩
      · exact ⟨rfl, _, fun H hz => Dn.str⟩
      · exact ⟨rfl, _, fun H hz => Dn.str⟩
      · exact ⟨rfl, .list [], fun H hz => Dn.lt (n := 0) hz (by walk_at "mem") (by simp) .nil⟩
      · exact ⟨rfl, .list [.int lo], fun H hz => Dn.lt (n := 0) hz (by walk_at "mem") (by simp) (.cons (Dn.sc (.int _)) .nil)⟩
      · exact ⟨rfl, .tuple [.int hi], fun H hz => Dn.tp (n := 0) hz (by walk_at "mem") (by simp) (.cons (Dn.sc (.int _)) .nil)⟩
      · exact ⟨rfl, .tuple [], fun H hz => Dn.tp (n := 0) hz (by walk_at "mem") (by simp) .nil⟩
end
end K45
set_option Elab.async false
set_option linter.all false
set_option maxRecDepth 100000
set_option maxHeartbeats 4000000
namespace K45
open PySem PySem.Spec PyProof.Rows L2 Wk
local macro_rules | `(tactic| walk_at "u1") => `(tactic| fail "no more")
local macro_rules | `(tactic| walk_at "pos") => `(tactic| first | assumption | omega | decide | (simp only [Int.ofNat_eq_natCast] at *; omega))
local macro_rules | `(tactic| walk_at "sz") => `(tactic| first
  | (simp only [List.length_cons, List.length_nil]; decide)
  | exact Evl.sz_of (by omega)
  | exact Evl.sz_lt (by omega)
  | exact Evl.sz_of (by simp only [List.length_map, List.length_append, List.length_cons, List.length_nil, List.length_replicate]; omega)
  | exact Evl.sz_lt (by simp only [List.length_map, List.length_append, List.length_cons, List.length_nil, List.length_replicate]; omega))
local macro_rules | `(tactic| walk_at "cond") => `(tactic| first
  | exact Or.inr ⟨by decide, by decide⟩
  | (show (0 : Int) < _; first | decide | assumption | omega)
  | exact Or.inl ⟨by omega, by omega⟩
  | exact Or.inr ⟨by omega, by omega⟩
  | exact ⟨by decide, by decide, by decide⟩
  | exact log2_lt (by omega) (by omega)
  | exact ⟨by omega, by omega⟩)
local macro_rules | `(tactic| walk_at "ty") => `(tactic| first
  | exact ty_int | exact ty_bl | exact ty_str | exact ty_non
  | exact ty_L (by assumption) | exact ty_T (by assumption)
  | exact ty_L (SqL.of (by assumption)) | exact ty_T (SqT.of (by assumption)))
local macro_rules | `(tactic| walk_at "kit") => `(tactic| first
  | exact k_ii | exact k_ib | exact k_is | exact k_il | exact k_it
  | exact k_bb | exact k_bi | exact k_bs | exact k_bl | exact k_bt
  | exact k_ss | exact k_sb | exact k_si | exact k_sl | exact k_st
  | exact k_ll | exact k_lb | exact k_li | exact k_ls | exact k_lt
  | exact k_tt | exact k_tb | exact k_ti | exact k_ts | exact k_tl
  | exact k_nn | exact k_ni | exact k_ns | exact k_nl | exact k_nt)
local macro_rules | `(tactic| walk_at "s1") => `(tactic| first
  | with_reducible refine w_seq ?_
  | with_reducible refine w_set ?_
  | with_reducible refine w_op ?_
  | ((with_reducible refine' w_var ?h1 ?_); (case h1 => rfl))
  | with_reducible refine w_c ?_
  | with_reducible refine w_cb ?_
  | with_reducible refine w_cons ?_
  | with_reducible refine w_nil ?_
  | with_reducible refine w_I0 ?_
  | ((with_reducible refine' w_I ?c1 ?_); case c1 => walk_at "cond")
  | with_reducible refine w_ret ?_
  | with_reducible refine w_next ?_
  | with_reducible refine w_ifS ?_
  | with_reducible refine w_test ?_
  | with_reducible refine w_tB ?_
  | with_reducible refine w_k ?_
  | with_reducible refine w_eqI ?_
  | with_reducible refine w_neI ?_
  | with_reducible refine w_eqS ?_
  | with_reducible refine w_neS ?_
  | with_reducible refine w_and ?_
  | with_reducible refine w_or ?_
  | with_reducible refine w_not ?_
  | with_reducible refine w_andV ?_
  | with_reducible refine w_orV ?_
  | with_reducible refine w_notV ?_
  | with_reducible refine w_ifE ?_
  | with_reducible refine w_true ?_
  | with_reducible refine w_false ?_
  | with_reducible refine w_ntrue ?_
  | with_reducible refine w_nfalse ?_
  | with_reducible refine w_call ?_
  | with_reducible refine c_int ?_
  | with_reducible refine c_abs ?_
  | with_reducible refine c_max ?_
  | with_reducible refine c_min ?_
  | with_reducible refine w_drop ?_
  | with_reducible refine w_sfld ?_
  | with_reducible refine w_meth ?_
  | with_reducible refine w_make ?_
  | with_reducible refine w_prop ?_
  | with_reducible refine w_callK ?_
  | with_reducible refine w_callN ?_
  | with_reducible refine w_star ?_
  | with_reducible refine w_gcons ?_
  | with_reducible refine w_gname ?_
  | with_reducible refine w_gnil ?_
  | with_reducible refine w_retN ?_
  | with_reducible refine w_tup ?_
  | with_reducible refine w_lst ?_
  | with_reducible refine w_fld ?_
  | with_reducible refine w_bm ?_
  | with_reducible refine w_bm0 ?_
  | with_reducible refine w_forL ?_
  | with_reducible refine w_forT ?_
  | with_reducible refine w_forS ?_
  | with_reducible refine w_forR ?_
  | with_reducible refine w_lcR ?_
  | with_reducible refine w_lcL ?_
  | with_reducible refine w_lcT ?_
  | with_reducible refine w_isN ?_
  | with_reducible refine w_notN ?_
  | with_reducible refine w_asg ?_
  | with_reducible refine w_gsub ?_
  | ((with_reducible refine' w_aug ?h1 ?_); (case h1 => rfl))
  | with_reducible refine w_augS ?_
  | with_reducible refine w_ipI ?_
  | with_reducible refine w_un ?_
  | with_reducible refine w_U ?_
  | ((with_reducible refine' w_iteF ?f1 ?_); case f1 => (first | (intro h; cases h; done) | decide))
  | ((with_reducible refine' w_iteT ?f1 ?_); case f1 => rfl)
  | ((with_reducible refine' w_iteNF ?f1 ?_); case f1 => rfl)
  | ((with_reducible refine' w_iteNT ?f1 ?_); case f1 => (first | (intro h; cases h; done) | decide))
  | ((with_reducible refine' c_isi ?t1 ?k1 ?_); (case t1 => walk_at "ty"); (case k1 => walk_at "kit"))
  | ((with_reducible refine' w_eq ?e1 ?_); case e1 => rfl)
  | ((with_reducible refine' w_ne ?e1 ?_); case e1 => rfl)
  | walk_at "u1")
local macro_rules | `(tactic| walk_at "s") => `(tactic| repeat walk_at "s1")
local macro_rules | `(tactic| walk_at "mem") => `(tactic| first | with_reducible exact List.mem_cons_self .. | ((with_reducible refine' List.mem_cons_of_mem _ ?q); (case q => walk_at "mem")) | assumption | ((with_reducible refine' List.mem_append_right _ ?q); (case q => walk_at "mem")) | (exact List.mem_append_left _ (by assumption)))
local macro_rules | `(tactic| walk_at "pk") => `(tactic| first | with_reducible exact Pk.here | ((with_reducible refine' Pk.there ?q); (case q => walk_at "pk")) | ((with_reducible refine' Pk.app ?q); (case q => walk_at "pk")))
local macro_rules | `(tactic| walk_at "pkb") => `(tactic| first | with_reducible exact PkB.here | ((with_reducible refine' PkB.there ?q); (case q => walk_at "pkb")) | ((with_reducible refine' PkB.app ?q); (case q => walk_at "pkb")))
local macro_rules | `(tactic| walk_at "spl") => `(tactic| first | with_reducible exact Spl.nil | ((with_reducible refine' Spl.cons ?h ?t); (case h => walk_at "pk"); (case t => walk_at "spl")) | ((with_reducible refine' Spl.blk ?h ?t); (case h => walk_at "pkb"); (case t => walk_at "spl")))
local macro_rules | `(tactic| walk_at "sbx") => `(tactic| first | with_reducible exact Sb.refl | with_reducible exact Sb.nil | with_reducible exact Sb.left | ((with_reducible refine' Sb.cons ?h ?t); (case h => walk_at "pk"); (case t => walk_at "sbx")) | ((with_reducible refine' Sb.blk ?h ?t); (case h => walk_at "pkb"); (case t => walk_at "sbx")) | ((with_reducible refine' Sb.drop ?q); (case q => walk_at "sbx")) | ((with_reducible refine' Sb.right ?q); (case q => walk_at "sbx")))
local macro_rules | `(tactic| walk_at "hd") => `(tactic| first | assumption | exact Hd.sb (by assumption) (by walk_at "sbx"))
local macro_rules | `(tactic| walk_at "sq") => `(tactic| first
  | assumption
  | exact Hd.sqL (by assumption) (by walk_at "mem")
  | exact Hd.sqT (by assumption) (by walk_at "mem")
  | exact Hd.sqF (by assumption) (by walk_at "mem")
  | (refine .inl ?_; walk_at "sq")
  | (refine .inr ?_; walk_at "sq"))
local macro_rules | `(tactic| walk_at "at") => `(tactic| first | rfl | assumption | exact atI_nat (by assumption))
local macro_rules | `(tactic| walk_at "dn1") => `(tactic| first
  | exact Dn.int | exact Dn.str | exact Dn.non | exact Dn.bl | assumption
  | ((refine' Dn.tp ?a1 ?m1 ?l1 ?p1); (case a1 => assumption); (case m1 => walk_at "mem"); (case l1 => (simp only [List.length_cons, List.length_nil]; omega)); (case p1 => walk_at "dns"))
  | ((refine' Dn.lt ?a1 ?m1 ?l1 ?p1); (case a1 => assumption); (case m1 => walk_at "mem"); (case l1 => (simp only [List.length_cons, List.length_nil]; omega)); (case p1 => walk_at "dns")))
local macro_rules | `(tactic| walk_at "dns") => `(tactic| first | exact Paired.nil | exact Dn.ints | ((refine' Paired.cons ?a1 ?b1); (case a1 => walk_at "dn1"); (case b1 => walk_at "dns")))
local macro_rules | `(tactic| walk_at "g1") => `(tactic| first
  | ((with_reducible refine' g_ixI ?h1 ?h2 ?h3 ?_); (case h1 => assumption); (case h2 => walk_at "mem"); (case h3 => omega); intro z hz)
  | ((with_reducible refine' g_ixIT ?h1 ?h2 ?h3 ?_); (case h1 => assumption); (case h2 => walk_at "mem"); (case h3 => omega); intro z hz)
  | ((with_reducible refine' g_setI ?h1 ?h2 ?h3 ?_); (case h1 => assumption); (case h2 => walk_at "pk"); (case h3 => omega); intro H2 hh2)
  | ((with_reducible refine' w_ixL ?h1 ?h2 ?_); (case h1 => walk_at "sq"); (case h2 => walk_at "at"))
  | ((with_reducible refine' w_ixT ?h1 ?h2 ?_); (case h1 => walk_at "sq"); (case h2 => walk_at "at"))
  | ((with_reducible refine' w_ixAny ?h1 ?h2 ?_); (case h1 => walk_at "sq"); (case h2 => walk_at "at"))
  | ((with_reducible refine' c_lenA ?h1 ?_); (case h1 => walk_at "sq"))
  | ((with_reducible refine' c_isi ?t1 ?k1 ?_); (case t1 => first | exact ty_T (by walk_at "sq") | exact ty_L (by walk_at "sq")); (case k1 => walk_at "kit"))
  | ((with_reducible refine' g_lst ?h1 ?h2 ?_); (case h1 => assumption); (case h2 => walk_at "sz"); intro p H2 hh2)
  | ((with_reducible refine' g_tup ?h1 ?h2 ?_); (case h1 => assumption); (case h2 => walk_at "sz"); intro p H2 hh2)
  | ((with_reducible refine' g_dict ?h1 ?_); (case h1 => assumption); intro p H2 hh2)
  | ((with_reducible refine' g_listL ?h1 ?h2 ?_); (case h1 => assumption); (case h2 => walk_at "sq"); intro p H2 hh2)
  | ((with_reducible refine' g_listT ?h1 ?h2 ?_); (case h1 => assumption); (case h2 => walk_at "sq"); intro p H2 hh2)
  | ((with_reducible refine' g_tupL ?h1 ?h2 ?_); (case h1 => assumption); (case h2 => walk_at "sq"); intro p H2 hh2)
  | ((with_reducible refine' g_set ?h1 ?h2 ?h3 ?_); (case h1 => assumption); (case h2 => walk_at "pk"); (case h3 => first | rfl | assumption | exact Evl.ixN_nat (by first | omega | (simp only [List.length_cons, List.length_nil]; omega))); intro H2 hh2)
  | ((with_reducible refine' g_kbm ?h1 ?h2 ?_); (case h1 => assumption); (case h2 => walk_at "mem"))
  | ((with_reducible refine' g_kbm0 ?h1 ?h2 ?_); (case h1 => assumption); (case h2 => walk_at "mem"))
  | ((with_reducible refine' g_app ?h1 ?h2 ?h3 ?_); (case h1 => assumption); (case h2 => walk_at "pk"); (case h3 => walk_at "sz"); intro H2 hh2)
  | ((with_reducible refine' g_kapp ?h1 ?h2 ?h3 ?_); (case h1 => assumption); (case h2 => walk_at "pk"); (case h3 => walk_at "sz"); intro H2 hh2)
  | ((with_reducible refine' g_fld ?h1 ?h2 ?h3 ?h4 ?h5 ?_); (case h1 => assumption); (case h2 => walk_at "mem"); (case h3 => assumption); (case h4 => assumption); (case h5 => rfl))
  | ((with_reducible refine' g_sfld ?h1 ?h2 ?h3 ?h4 ?h5 ?_); (case h1 => assumption); (case h2 => walk_at "pk"); (case h3 => assumption); (case h4 => assumption); (case h5 => decide); intro H2 hh2)
  | ((with_reducible refine' g_meth ?h1 ?h2 ?h3 ?_); (case h1 => assumption); (case h2 => walk_at "mem"); (case h3 => rfl))
  | ((with_reducible refine' g_prop ?h1 ?h2 ?_); (case h1 => assumption); (case h2 => walk_at "mem"))
  | ((with_reducible refine' g_make ?h1 ?_); (case h1 => assumption); intro x H2 hh2)
  | ((with_reducible refine' g_cat ?h1 ?h2 ?h3 ?h4 ?_); (case h1 => assumption); (case h2 => walk_at "mem"); (case h3 => walk_at "mem"); (case h4 => walk_at "sz"); intro p H2 hh2)
  | ((with_reducible refine' g_inT ?h1 ?h2 ?h3 ?h4 ?h5 ?_); (case h1 => assumption); (case h2 => walk_at "mem"); (case h3 => rfl); (case h4 => rfl); (case h5 => rfl)))
local macro_rules | `(tactic| walk_at "gs") => `(tactic| repeat first | walk_at "s1" | walk_at "g1")
local macro_rules | `(tactic| walk_at "ite") => `(tactic| first
  | ((with_reducible refine' w_iteT ?h1 ?_); (case h1 => omega))
  | ((with_reducible refine' w_iteF ?h1 ?_); (case h1 => omega))
  | (with_reducible refine w_ite ?_ ?_ <;> intro hq)
  | ((with_reducible refine' w_iteNT ?h1 ?_); (case h1 => omega))
  | ((with_reducible refine' w_iteNF ?h1 ?_); (case h1 => omega))
  | (with_reducible refine w_iteN ?_ ?_ <;> intro hq))
local macro_rules | `(tactic| walk_at "go") => `(tactic| repeat' first | walk_at "s1" | walk_at "g1" | walk_at "ite")
local macro_rules | `(tactic| walk_at "g1") => `(tactic| first
  | ((with_reducible refine' g_take1 ?h1 ?h2 ?h3 ?h4 ?_); (case h1 => assumption); (case h2 => walk_at "spl"); (case h3 => omega); (case h4 => omega); intro k H2 hk1 hh2)
  | ((with_reducible refine' g_take ?h1 ?h2 ?h4 ?_); (case h1 => assumption); (case h2 => walk_at "spl"); (case h4 => omega); intro k H2 hk1 hh2)
  | ((with_reducible refine' g_betweenN ?h1 ?h2 ?h5 ?h3 ?h4 ?_); (case h1 => assumption); (case h2 => walk_at "spl"); (case h5 => omega); (case h3 => omega); (case h4 => omega); intro k H2 hk1 hk2 hh2)
  | ((with_reducible refine' g_between ?h1 ?h2 ?h3 ?h4 ?_); (case h1 => assumption); (case h2 => walk_at "spl"); (case h3 => omega); (case h4 => omega); intro k H2 hk1 hk2 hh2)
  | ((with_reducible refine' g_size ?h1 ?h2 ?h3 ?h4 ?_); (case h1 => assumption); (case h2 => walk_at "spl"); (case h3 => omega); (case h4 => omega); intro k H2 hk1 hh2)
  | ((with_reducible refine' g_word ?h1 ?h2 ?_); (case h1 => assumption); (case h2 => walk_at "spl"); intro k H2 hk1 hh2))
section
variable {P : Program} {w : World} {K : PySem.W.Frag} {mg : Str → Option Value} {base : Heap} {aREG aOPS : Addr}
theorem dn_kh {H : Hp} {v : V} {d : PyData} : ∀ {n : Nat}, Dn K [] H n v d → ∃ t, KH K H v t
  | 0, h => by cases h <;> exact ⟨_, by constructor⟩
  | n + 1, h => by
    rcases h with h | ⟨a, xs, ds, e1, e2, ha, hq, hl, p⟩ | ⟨a, xs, ds, e1, e2, ha, hq, hl, p⟩
    · cases h <;> exact ⟨_, by constructor⟩
    · subst e1; exact ⟨_, .lst hq⟩
    · subst e1; exact ⟨_, .tup hq⟩
/-- _law_is_integer of anything -/
def sp_lisI (K : PySem.W.Frag) : Sp := fun vs H Q _ => ∃ (v : V) (t : String) (lo hi : Int), vs = [v, .int lo, .int hi] ∧ KH K H v t ∧ Q (.bl (isR v lo hi)) H
theorem c_lisI (T : Txt K mg aREG aOPS) (d : DefAt K mg "_law_is_integer" s__law_is_integer) : C8.Cal P w K mg base 1 "_law_is_integer" (sp_lisI K) [] := by
  refine mk d sc__law_is_integer (fun _ _ _ _ _ _ us hl => match us, hl with | [_, _, _], _ => rfl) (fun vs H Q E h => ?_) (fun f cdv A outer s H vs Q E hr h => ?_)
  · obtain ⟨v, t, lo, hi, rfl, _⟩ := h
    rfl
  · obtain ⟨v, t, lo, hi, rfl, kh, q⟩ := h
    refine ⟨_, (pss_one (ps_ret (pe_and (pe_callB call_isi (by rfl) T.b_isinstance (by decide +kernel) (pa_cons (pv 0) (pa_cons (pe_bltn (v := .ty "int") (by rfl) T.b_int (by decide +kernel) rfl) pa_nil))) (pe_and (pe_not (pe_callB call_isi (by rfl) T.b_isinstance (by decide +kernel) (pa_cons (pv 0) (pa_cons (pe_bltn (v := .ty "bool") (by rfl) T.b_bool (by decide +kernel) rfl) pa_nil)))) (pe_one (pe_chain op_le op_le (pv 1) (pv 0) (pv 2))))))), ?_⟩
    have ty := kh_ty kh
    cases kh with
    | int =>
      walk_at "s"
      show tChain (rI0 fun i j => V.bl (decide (i ≤ j))) (rI0 fun i j => V.bl (decide (i ≤ j))) (tVar 1) (tVar 0) (tVar 2) _ H _
      rename_i i
      refine ⟨_, rfl, _, rfl, _, _, rfl, rfl, _, rfl, ?_⟩
      by_cases h1 : lo ≤ i
      · rw [decide_eq_true h1]
        refine ⟨_, rfl, _, _, rfl, rfl, ?_⟩
        have e : decide (i ≤ hi) = isR (.int i) lo hi := by simp [isR, h1]
        show Q (.bl (decide (i ≤ hi))) H
        rw [e]
        exact q
      · rw [decide_eq_false h1]
        have e : false = isR (.int i) lo hi := by simp [isR, h1]
        show Q (.bl false) H
        rw [e]
        exact q
    | _ =>
      walk_at "s"
      exact q
/-! ### calls -/
inductive PCall where
  | send (x : Int) (k : Nat)
  | bad (v : V) (k : Nat)
  | recv
def cV : PCall → List V
  | .send x k => [.str "send", .int x, .int k]
  | .bad v k => [.str "send", v, .int k]
  | .recv => [.str "receive"]
/-- such a call, over the cells R -/
def CallOk (K : PySem.W.Frag) (R : List Cell) : PCall → Prop
  | .send x k => (0 ≤ x ∧ x ≤ 65535) ∧ k < 2
  | .bad v k => isR v 0 65535 = false ∧ (∀ H, Hd H R → ∃ t, KH K H v t) ∧ k < 2
  | .recv => True
theorem CallOk.sb {R R' : List Cell} {c : PCall} (h : CallOk K R c) (s : ∀ H, Hd H R' → Hd H R) : CallOk K R' c := by
  cases c with
  | send x k => exact h
  | bad v k => exact ⟨h.1, fun H hh => h.2.1 H (s H hh), h.2.2⟩
  | recv => trivial
/-- what is answered, and what stands behind it: the words within, how many came out -/
def ansV (room : Nat) (ws : List Int) : PCall → List V
  | .send _ _ => [.str "answer", .bl (decide (ws.length ≠ room))]
  | .bad _ _ => [.str "BadArgument", .str "word"]
  | .recv => [.str "answer", match ws with
    | [] => .non
    | x :: _ => .int x]
def ansD (room : Nat) (ws : List Int) : PCall → PyData
  | .send _ _ => .tuple [.str "answer", .bool (decide (ws.length ≠ room))]
  | .bad _ _ => .tuple [.str "BadArgument", .str "word"]
  | .recv => .tuple [.str "answer", match ws with
    | [] => .none
    | x :: _ => .int x]
theorem ans_dn {n room : Nat} {ws : List Int} {c : PCall} {t : Addr} {H : Hp} {L : List Cell} (hh : Hd H L) (m : tupC t (ansV room ws c) ∈ L) : Dn K [] H (n + 1) (.ref t) (ansD room ws c) := by
  cases c with
  | send x k => exact Dn.tp (n := n) hh m (by simp [ansV]) (.cons Dn.str (.cons Dn.bl .nil))
  | bad v k => exact Dn.tp (n := n) hh m (by simp [ansV]) (.cons Dn.str (.cons Dn.str .nil))
  | recv =>
    cases ws with
    | nil => exact Dn.tp (n := n) hh m (by simp [ansV]) (.cons Dn.str (.cons Dn.non .nil))
    | cons x r => exact Dn.tp (n := n) hh m (by simp [ansV]) (.cons Dn.str (.cons Dn.int .nil))
def sp_dcall (K : PySem.W.Frag) : Sp := fun vs H Q _ => ∃ (st c : Addr) (R : List Cell), vs = [.ref st] ∧ Hd H (stoC st c :: scrC c :: R) ∧ ∀ (t : Addr) (cl : PCall) (Z : List Cell) H', CallOk K Z cl → Hd H' (tupC t (cV cl) :: (Z ++ (stoC st c :: scrC c :: R))) → Q (.ref t) H'
theorem c_dcall (T : Txt K mg aREG aOPS) (d : DefAt K mg "_law_drawn_call" s__law_drawn_call) (c__law_take : C8.Cal P w K mg base 2 "_law_take" sp_take []) (c__law_word : C8.Cal P w K mg base 4 "_law_word" sp_word []) (c__law_wrong_integer : C8.Cal P w K mg base 4 "_law_wrong_integer" (sp_wrongD K) []) : C8.Cal P w K mg base 5 "_law_drawn_call" (sp_dcall K) [] := by
  refine mk d sc__law_drawn_call (fun _ _ _ _ _ _ us hl => match us, hl with | [_], _ => rfl) (fun vs H Q E h => ?_) (fun f cdv A outer s H vs Q E hr h => ?_)
  · obtain ⟨st, c, R, rfl, _⟩ := h
    rfl
  · obtain ⟨st, c, R, rfl, hh, q⟩ := h
    refine ⟨_, (pss_cons (ps_set (i := 1) sc__law_drawn_call.nd rfl (Or.inl rfl) (C8.pe_c c__law_take hr (by first | decide | omega) rfl (pa_cons (pv 0) (pa_cons pe_int pa_nil))))
  (pss_cons (ps_if (pt_cmpR op_eq (pv 1) pe_int (nomark _))
    (pss_one (ps_ret (pe_tup (pa_cons pe_str (pa_cons (C8.pe_c c__law_wrong_integer hr (by first | decide | omega) rfl (pa_cons (pv 0) (pa_cons pe_int (pa_cons pe_int pa_nil)))) (pa_cons (C8.pe_c c__law_take hr (by first | decide | omega) rfl (pa_cons (pv 0) (pa_cons pe_int pa_nil))) pa_nil))))))
    pss_nil)
  (pss_cons (ps_if (pt_cmpR op_lt (pv 1) pe_int (nomark _))
    (pss_one (ps_ret (pe_tup (pa_cons pe_str (pa_cons (C8.pe_c c__law_word hr (by first | decide | omega) rfl (pa_cons (pv 0) pa_nil)) (pa_cons (C8.pe_c c__law_take hr (by first | decide | omega) rfl (pa_cons (pv 0) (pa_cons pe_int pa_nil))) pa_nil))))))
    pss_nil)
  (pss_one (ps_ret (pe_tup (pa_cons pe_str pa_nil))))))), ?_⟩
    walk_at "gs"
    rename_i way H1 hw h1
    clear hh
    refine w_ite (fun e => ?_) (fun e => ?_)
    · walk_at "gs"
      refine g_wrongD h1 (by walk_at "spl") (by omega) (by omega) (by omega) fun v Z H2 hv h2 => ?_
      clear h1
      walk_at "gs"
      rename_i k H3 hk h3 t H4 h4
      obtain ⟨r1, d1, z1⟩ := hv
      exact q t (.bad v k) Z H4 ⟨r1, fun H hz => dn_kh (z1 H hz), by omega⟩ (show Hd H4 (tupC t [V.str (Str.ofString "send"), v, V.int (k : Int)] :: (Z ++ (stoC st c :: scrC c :: R))) from Hd.sb h4 (by walk_at "sbx"))
    · walk_at "gs"
      refine w_ite (fun e => ?_) (fun e => ?_)
      · walk_at "gs"
        rename_i x H2 hx h2 k H3 hk h3 t H4 h4
        exact q t (.send x k) [] H4 ⟨⟨by omega, by omega⟩, by omega⟩ (show Hd H4 (tupC t [V.str (Str.ofString "send"), V.int (x : Int), V.int (k : Int)] :: (stoC st c :: scrC c :: R)) from Hd.sb h4 (by walk_at "sbx"))
      · walk_at "gs"
        rename_i t H4 h4
        exact q t .recv [] H4 trivial (show Hd H4 (tupC t [V.str (Str.ofString "receive")] :: (stoC st c :: scrC c :: R)) from Hd.sb h4 (by walk_at "sbx"))
/-- the law's own answer -/
def sp_due (K : PySem.W.Frag) : Sp := fun vs H Q _ => ∃ (t a : Addr) (cl : PCall) (room out : Nat) (sent : List Int) (R : List Cell), vs = [.ref t, .int room, .ref a, .int out] ∧ CallOk K R cl ∧ out ≤ sent.length ∧ (sent.drop out).length ≤ room ∧ Hd H R ∧ tupC t (cV cl) ∈ R ∧ lstC a (sent.map V.int) ∈ R ∧
  ∀ u H', Hd H' (tupC u (ansV room (sent.drop out) cl) :: R) → Q (.ref u) H'
theorem c_due (T : Txt K mg aREG aOPS) (d : DefAt K mg "_law_due" s__law_due) (c__law_is_integer : C8.Cal P w K mg base 1 "_law_is_integer" (sp_lisI K) []) : C8.Cal P w K mg base 2 "_law_due" (sp_due K) [] := by
  refine mk d sc__law_due (fun _ _ _ _ _ _ us hl => match us, hl with | [_, _, _, _], _ => rfl) (fun vs H Q E h => ?_) (fun f cdv A outer s H vs Q E hr h => ?_)
  · obtain ⟨t, a, cl, room, out, sent, R, rfl, _⟩ := h
    rfl
  · obtain ⟨t, a, cl, room, out, sent, R, rfl, hc, ho, hm, hh, mt, ma, q⟩ := h
    refine ⟨_, (pss_cons (ps_if (pt_cmpR op_eq (pe_ix ix_tup (pv 0) pe_int (fun _ _ => rfl)) pe_str (nomark _))
    (pss_cons (ps_if (pt_not (pt_val (C8.pe_c c__law_is_integer hr (by first | decide | omega) rfl (pa_cons (pe_ix ix_tup (pv 0) pe_int (fun _ _ => rfl)) (pa_cons pe_int (pa_cons pe_int pa_nil))))))
        (pss_one (ps_ret (pe_tup (pa_cons pe_str (pa_cons pe_str pa_nil)))))
        pss_nil)
      (pss_one (ps_ret (pe_tup (pa_cons pe_str (pa_cons (pe_cmpR op_lt (pe_op op_sub (pe_callB Wk.b_len (by rfl) T.b_len (by decide +kernel) (pa_cons (pv 2) pa_nil)) (pv 3)) (pv 1) (nomark _)) pa_nil))))))
    pss_nil)
  (pss_cons (ps_if (pt_cmpR op_eq (pv 3) (pe_callB Wk.b_len (by rfl) T.b_len (by decide +kernel) (pa_cons (pv 2) pa_nil)) (nomark _))
    (pss_one (ps_ret (pe_tup (pa_cons pe_str (pa_cons pe_non pa_nil)))))
    pss_nil)
  (pss_one (ps_ret (pe_tup (pa_cons pe_str (pa_cons (pe_ix ix_list (pv 2) (pv 3) (fun _ _ => rfl)) pa_nil))))))), ?_⟩
    have hlm : (sent.map V.int).length = sent.length := List.length_map ..
    have hld : (sent.drop out).length = sent.length - out := List.length_drop
    cases cl with
    | send x k =>
      have mt : tupC t [V.str (Str.ofString "send"), V.int x, V.int (k : Int)] ∈ R := mt
      walk_at "gs"
      refine ⟨.int x, "int", 0, 65535, rfl, .int, ?_⟩
      rw [show isR (.int x) 0 65535 = true from decide_eq_true hc.1]
      walk_at "gs"
      rename_i u H2 h2
      refine q u H2 ?_
      show Hd H2 (tupC u [V.str (Str.ofString "answer"), V.bl (decide ((sent.drop out).length ≠ room))] :: R)
      rw [show decide ((sent.drop out).length ≠ room) = decide (((sent.map V.int).length : Int) - (out : Int) < (room : Int)) from by rw [hlm, hld]; exact decide_eq_decide.mpr ⟨fun z => by omega, fun z => by omega⟩]
      exact h2
    | bad v k =>
      have mt : tupC t [V.str (Str.ofString "send"), v, V.int (k : Int)] ∈ R := mt
      obtain ⟨hb, hk, _⟩ := hc
      obtain ⟨ty, kh⟩ := hk H hh
      walk_at "gs"
      refine ⟨v, ty, 0, 65535, rfl, kh, ?_⟩
      rw [hb]
      walk_at "gs"
      rename_i u H2 h2
      exact q u H2 h2
    | recv =>
      have mt : tupC t [V.str (Str.ofString "receive")] ∈ R := mt
      walk_at "gs"
      refine w_ite (fun e => ?_) (fun e => ?_)
      · have hd : sent.drop out = [] := List.drop_eq_nil_of_le (by omega)
        walk_at "gs"
        rename_i u H2 h2
        exact q u H2 (by rw [hd]; exact h2)
      · obtain ⟨x, hx⟩ : ∃ x, sent[out]? = some x := ⟨_, List.getElem?_eq_getElem (show out < sent.length by omega)⟩
        have hd : sent.drop out = x :: sent.drop (out + 1) := by
          obtain ⟨hlt, rfl⟩ := List.getElem?_eq_some_iff.mp hx
          exact List.drop_eq_getElem_cons hlt
        walk_at "gs"
        rename_i z hz u H2 h2
        rw [hx] at hz
        cases hz
        exact q u H2 (by rw [hd]; exact h2)
end
end K45
set_option Elab.async false
set_option linter.all false
set_option maxRecDepth 100000
set_option maxHeartbeats 4000000
namespace K45
open PySem PySem.Spec PyProof.Rows L2 Wk
local macro_rules | `(tactic| walk_at "u1") => `(tactic| fail "no more")
local macro_rules | `(tactic| walk_at "pos") => `(tactic| first | assumption | omega | decide | (simp only [Int.ofNat_eq_natCast] at *; omega))
local macro_rules | `(tactic| walk_at "sz") => `(tactic| first
  | (simp only [List.length_cons, List.length_nil]; decide)
  | exact Evl.sz_of (by omega)
  | exact Evl.sz_lt (by omega)
  | exact Evl.sz_of (by simp only [List.length_map, List.length_append, List.length_cons, List.length_nil, List.length_replicate]; omega)
  | exact Evl.sz_lt (by simp only [List.length_map, List.length_append, List.length_cons, List.length_nil, List.length_replicate]; omega))
local macro_rules | `(tactic| walk_at "cond") => `(tactic| first
  | exact Or.inr ⟨by decide, by decide⟩
  | (show (0 : Int) < _; first | decide | assumption | omega)
  | exact Or.inl ⟨by omega, by omega⟩
  | exact Or.inr ⟨by omega, by omega⟩
  | exact ⟨by decide, by decide, by decide⟩
  | exact log2_lt (by omega) (by omega)
  | exact ⟨by omega, by omega⟩)
local macro_rules | `(tactic| walk_at "ty") => `(tactic| first
  | exact ty_int | exact ty_bl | exact ty_str | exact ty_non
  | exact ty_L (by assumption) | exact ty_T (by assumption)
  | exact ty_L (SqL.of (by assumption)) | exact ty_T (SqT.of (by assumption)))
local macro_rules | `(tactic| walk_at "kit") => `(tactic| first
  | exact k_ii | exact k_ib | exact k_is | exact k_il | exact k_it
  | exact k_bb | exact k_bi | exact k_bs | exact k_bl | exact k_bt
  | exact k_ss | exact k_sb | exact k_si | exact k_sl | exact k_st
  | exact k_ll | exact k_lb | exact k_li | exact k_ls | exact k_lt
  | exact k_tt | exact k_tb | exact k_ti | exact k_ts | exact k_tl
  | exact k_nn | exact k_ni | exact k_ns | exact k_nl | exact k_nt)
local macro_rules | `(tactic| walk_at "s1") => `(tactic| first
  | with_reducible refine w_seq ?_
  | with_reducible refine w_set ?_
  | with_reducible refine w_op ?_
  | ((with_reducible refine' w_var ?h1 ?_); (case h1 => rfl))
  | with_reducible refine w_c ?_
  | with_reducible refine w_cb ?_
  | with_reducible refine w_cons ?_
  | with_reducible refine w_nil ?_
  | with_reducible refine w_I0 ?_
  | ((with_reducible refine' w_I ?c1 ?_); case c1 => walk_at "cond")
  | with_reducible refine w_ret ?_
  | with_reducible refine w_next ?_
  | with_reducible refine w_ifS ?_
  | with_reducible refine w_test ?_
  | with_reducible refine w_tB ?_
  | with_reducible refine w_k ?_
  | with_reducible refine w_eqI ?_
  | with_reducible refine w_neI ?_
  | with_reducible refine w_eqS ?_
  | with_reducible refine w_neS ?_
  | with_reducible refine w_and ?_
  | with_reducible refine w_or ?_
  | with_reducible refine w_not ?_
  | with_reducible refine w_andV ?_
  | with_reducible refine w_orV ?_
  | with_reducible refine w_notV ?_
  | with_reducible refine w_ifE ?_
  | with_reducible refine w_true ?_
  | with_reducible refine w_false ?_
  | with_reducible refine w_ntrue ?_
  | with_reducible refine w_nfalse ?_
  | with_reducible refine w_call ?_
  | with_reducible refine c_int ?_
  | with_reducible refine c_abs ?_
  | with_reducible refine c_max ?_
  | with_reducible refine c_min ?_
  | with_reducible refine w_drop ?_
  | with_reducible refine w_sfld ?_
  | with_reducible refine w_meth ?_
  | with_reducible refine w_make ?_
  | with_reducible refine w_prop ?_
  | with_reducible refine w_callK ?_
  | with_reducible refine w_callN ?_
  | with_reducible refine w_star ?_
  | with_reducible refine w_gcons ?_
  | with_reducible refine w_gname ?_
  | with_reducible refine w_gnil ?_
  | with_reducible refine w_retN ?_
  | with_reducible refine w_tup ?_
  | with_reducible refine w_lst ?_
  | with_reducible refine w_fld ?_
  | with_reducible refine w_bm ?_
  | with_reducible refine w_bm0 ?_
  | with_reducible refine w_forL ?_
  | with_reducible refine w_forT ?_
  | with_reducible refine w_forS ?_
  | with_reducible refine w_forR ?_
  | with_reducible refine w_lcR ?_
  | with_reducible refine w_lcL ?_
  | with_reducible refine w_lcT ?_
  | with_reducible refine w_isN ?_
  | with_reducible refine w_notN ?_
  | with_reducible refine w_asg ?_
  | with_reducible refine w_gsub ?_
  | ((with_reducible refine' w_aug ?h1 ?_); (case h1 => rfl))
  | with_reducible refine w_augS ?_
  | with_reducible refine w_ipI ?_
  | with_reducible refine w_un ?_
  | with_reducible refine w_U ?_
  | ((with_reducible refine' w_iteF ?f1 ?_); case f1 => (first | (intro h; cases h; done) | decide))
  | ((with_reducible refine' w_iteT ?f1 ?_); case f1 => rfl)
  | ((with_reducible refine' w_iteNF ?f1 ?_); case f1 => rfl)
  | ((with_reducible refine' w_iteNT ?f1 ?_); case f1 => (first | (intro h; cases h; done) | decide))
  | ((with_reducible refine' c_isi ?t1 ?k1 ?_); (case t1 => walk_at "ty"); (case k1 => walk_at "kit"))
  | ((with_reducible refine' w_eq ?e1 ?_); case e1 => rfl)
  | ((with_reducible refine' w_ne ?e1 ?_); case e1 => rfl)
  | walk_at "u1")
local macro_rules | `(tactic| walk_at "s") => `(tactic| repeat walk_at "s1")
local macro_rules | `(tactic| walk_at "mem") => `(tactic| first | with_reducible exact List.mem_cons_self .. | ((with_reducible refine' List.mem_cons_of_mem _ ?q); (case q => walk_at "mem")) | assumption | ((with_reducible refine' List.mem_append_right _ ?q); (case q => walk_at "mem")) | (exact List.mem_append_left _ (by assumption)))
local macro_rules | `(tactic| walk_at "pk") => `(tactic| first | with_reducible exact Pk.here | ((with_reducible refine' Pk.there ?q); (case q => walk_at "pk")) | ((with_reducible refine' Pk.app ?q); (case q => walk_at "pk")))
local macro_rules | `(tactic| walk_at "pkb") => `(tactic| first | with_reducible exact PkB.here | ((with_reducible refine' PkB.there ?q); (case q => walk_at "pkb")) | ((with_reducible refine' PkB.app ?q); (case q => walk_at "pkb")))
local macro_rules | `(tactic| walk_at "spl") => `(tactic| first | with_reducible exact Spl.nil | ((with_reducible refine' Spl.cons ?h ?t); (case h => walk_at "pk"); (case t => walk_at "spl")) | ((with_reducible refine' Spl.blk ?h ?t); (case h => walk_at "pkb"); (case t => walk_at "spl")))
local macro_rules | `(tactic| walk_at "sbx") => `(tactic| first | with_reducible exact Sb.refl | with_reducible exact Sb.nil | with_reducible exact Sb.left | ((with_reducible refine' Sb.cons ?h ?t); (case h => walk_at "pk"); (case t => walk_at "sbx")) | ((with_reducible refine' Sb.blk ?h ?t); (case h => walk_at "pkb"); (case t => walk_at "sbx")) | ((with_reducible refine' Sb.drop ?q); (case q => walk_at "sbx")) | ((with_reducible refine' Sb.right ?q); (case q => walk_at "sbx")))
local macro_rules | `(tactic| walk_at "hd") => `(tactic| first | assumption | exact Hd.sb (by assumption) (by walk_at "sbx"))
local macro_rules | `(tactic| walk_at "sq") => `(tactic| first
  | assumption
  | exact Hd.sqL (by assumption) (by walk_at "mem")
  | exact Hd.sqT (by assumption) (by walk_at "mem")
  | exact Hd.sqF (by assumption) (by walk_at "mem")
  | (refine .inl ?_; walk_at "sq")
  | (refine .inr ?_; walk_at "sq"))
local macro_rules | `(tactic| walk_at "at") => `(tactic| first | rfl | assumption | exact atI_nat (by assumption))
local macro_rules | `(tactic| walk_at "dn1") => `(tactic| first
  | exact Dn.int | exact Dn.str | exact Dn.non | exact Dn.bl | assumption
  | ((refine' Dn.tp ?a1 ?m1 ?l1 ?p1); (case a1 => assumption); (case m1 => walk_at "mem"); (case l1 => (simp only [List.length_cons, List.length_nil]; omega)); (case p1 => walk_at "dns"))
  | ((refine' Dn.lt ?a1 ?m1 ?l1 ?p1); (case a1 => assumption); (case m1 => walk_at "mem"); (case l1 => (simp only [List.length_cons, List.length_nil]; omega)); (case p1 => walk_at "dns")))
local macro_rules | `(tactic| walk_at "dns") => `(tactic| first | exact Paired.nil | exact Dn.ints | ((refine' Paired.cons ?a1 ?b1); (case a1 => walk_at "dn1"); (case b1 => walk_at "dns")))
local macro_rules | `(tactic| walk_at "g1") => `(tactic| first
  | ((with_reducible refine' g_ixI ?h1 ?h2 ?h3 ?_); (case h1 => assumption); (case h2 => walk_at "mem"); (case h3 => omega); intro z hz)
  | ((with_reducible refine' g_ixIT ?h1 ?h2 ?h3 ?_); (case h1 => assumption); (case h2 => walk_at "mem"); (case h3 => omega); intro z hz)
  | ((with_reducible refine' g_setI ?h1 ?h2 ?h3 ?_); (case h1 => assumption); (case h2 => walk_at "pk"); (case h3 => omega); intro H2 hh2)
  | ((with_reducible refine' w_ixL ?h1 ?h2 ?_); (case h1 => walk_at "sq"); (case h2 => walk_at "at"))
  | ((with_reducible refine' w_ixT ?h1 ?h2 ?_); (case h1 => walk_at "sq"); (case h2 => walk_at "at"))
  | ((with_reducible refine' w_ixAny ?h1 ?h2 ?_); (case h1 => walk_at "sq"); (case h2 => walk_at "at"))
  | ((with_reducible refine' c_lenA ?h1 ?_); (case h1 => walk_at "sq"))
  | ((with_reducible refine' c_isi ?t1 ?k1 ?_); (case t1 => first | exact ty_T (by walk_at "sq") | exact ty_L (by walk_at "sq")); (case k1 => walk_at "kit"))
  | ((with_reducible refine' g_lst ?h1 ?h2 ?_); (case h1 => assumption); (case h2 => walk_at "sz"); intro p H2 hh2)
  | ((with_reducible refine' g_tup ?h1 ?h2 ?_); (case h1 => assumption); (case h2 => walk_at "sz"); intro p H2 hh2)
  | ((with_reducible refine' g_dict ?h1 ?_); (case h1 => assumption); intro p H2 hh2)
  | ((with_reducible refine' g_listL ?h1 ?h2 ?_); (case h1 => assumption); (case h2 => walk_at "sq"); intro p H2 hh2)
  | ((with_reducible refine' g_listT ?h1 ?h2 ?_); (case h1 => assumption); (case h2 => walk_at "sq"); intro p H2 hh2)
  | ((with_reducible refine' g_tupL ?h1 ?h2 ?_); (case h1 => assumption); (case h2 => walk_at "sq"); intro p H2 hh2)
  | ((with_reducible refine' g_set ?h1 ?h2 ?h3 ?_); (case h1 => assumption); (case h2 => walk_at "pk"); (case h3 => first | rfl | assumption | exact Evl.ixN_nat (by first | omega | (simp only [List.length_cons, List.length_nil]; omega))); intro H2 hh2)
  | ((with_reducible refine' g_kbm ?h1 ?h2 ?_); (case h1 => assumption); (case h2 => walk_at "mem"))
  | ((with_reducible refine' g_kbm0 ?h1 ?h2 ?_); (case h1 => assumption); (case h2 => walk_at "mem"))
  | ((with_reducible refine' g_app ?h1 ?h2 ?h3 ?_); (case h1 => assumption); (case h2 => walk_at "pk"); (case h3 => walk_at "sz"); intro H2 hh2)
  | ((with_reducible refine' g_kapp ?h1 ?h2 ?h3 ?_); (case h1 => assumption); (case h2 => walk_at "pk"); (case h3 => walk_at "sz"); intro H2 hh2)
  | ((with_reducible refine' g_fld ?h1 ?h2 ?h3 ?h4 ?h5 ?_); (case h1 => assumption); (case h2 => walk_at "mem"); (case h3 => assumption); (case h4 => assumption); (case h5 => rfl))
  | ((with_reducible refine' g_sfld ?h1 ?h2 ?h3 ?h4 ?h5 ?_); (case h1 => assumption); (case h2 => walk_at "pk"); (case h3 => assumption); (case h4 => assumption); (case h5 => decide); intro H2 hh2)
  | ((with_reducible refine' g_meth ?h1 ?h2 ?h3 ?_); (case h1 => assumption); (case h2 => walk_at "mem"); (case h3 => rfl))
  | ((with_reducible refine' g_prop ?h1 ?h2 ?_); (case h1 => assumption); (case h2 => walk_at "mem"))
  | ((with_reducible refine' g_make ?h1 ?_); (case h1 => assumption); intro x H2 hh2)
  | ((with_reducible refine' g_cat ?h1 ?h2 ?h3 ?h4 ?_); (case h1 => assumption); (case h2 => walk_at "mem"); (case h3 => walk_at "mem"); (case h4 => walk_at "sz"); intro p H2 hh2)
  | ((with_reducible refine' g_inT ?h1 ?h2 ?h3 ?h4 ?h5 ?_); (case h1 => assumption); (case h2 => walk_at "mem"); (case h3 => rfl); (case h4 => rfl); (case h5 => rfl)))
local macro_rules | `(tactic| walk_at "gs") => `(tactic| repeat first | walk_at "s1" | walk_at "g1")
local macro_rules | `(tactic| walk_at "ite") => `(tactic| first
  | ((with_reducible refine' w_iteT ?h1 ?_); (case h1 => omega))
  | ((with_reducible refine' w_iteF ?h1 ?_); (case h1 => omega))
  | (with_reducible refine w_ite ?_ ?_ <;> intro hq)
  | ((with_reducible refine' w_iteNT ?h1 ?_); (case h1 => omega))
  | ((with_reducible refine' w_iteNF ?h1 ?_); (case h1 => omega))
  | (with_reducible refine w_iteN ?_ ?_ <;> intro hq))
local macro_rules | `(tactic| walk_at "go") => `(tactic| repeat' first | walk_at "s1" | walk_at "g1" | walk_at "ite")
section
variable {P : Program} {w : World} {K : PySem.W.Frag} {mg : Str → Option Value} {base : Heap} {aREG aOPS : Addr}
/-- what the text leaves of its errors: C is BadArgument, W is WardError -/
structure ErrC (K : PySem.W.Frag) (mg : Str → Option Value) (C W fI : Addr) : Prop where
  g_C : mg "BadArgument" = some (.ref C)
  g_W : mg "WardError" = some (.ref W)
  vErr : mg "ValueError" = none
  o : OexC K C
  x : XfC K C
  e : ExcC K C
  no : PySem.W.findIn K (.ref C) "name" = some none
  init : PySem.W.findIn K (.ref C) "__init__" = some (some (.ref fI))
  fn : PySem.W.typeIn K (.ref fI) = some (.type "function")
  wsp : PySem.W.specialIn K (.ref W) "__getattribute__" = some (some (.builtin "type.__getattribute__"))
  wr : ∃ mc, PySem.W.readsIn K W mc = true ∧ PySem.W.findCls K (.ref W) mc "__init__" = some (.val (.builtin "ValueError.__init__"))
  isW : PySem.W.kitOne K (.ref C) (.ref W) = some true
  exW : PySem.W.exmOne K (.ref C) (.ref W) = some true
  isV : PySem.W.kitOne K (.ref C) (.type "ValueError") = some true
  isC : PySem.W.kitOne K (.ref C) (.ref C) = some true
  others : ∀ x ∈ (["SourceError", "Unknown", "Taken", "NotAllowed", "WrongState", "RingOfWaits", "Full", "Stopped"] : List Str), ∃ a, mg x = some (.ref a) ∧ PySem.W.kitOne K (.ref C) (.ref a) = some false
def sp_badI (C : Addr) : Sp := fun vs H Q _ => ∃ (a : Addr) (z : Str), vs = [.ref a, .str z] ∧ z.length ≤ 1000 ∧ H a = some (exo a C none) ∧ ∀ dx, H dx = none → dx ≠ a → Q .non (upd (upd H dx (exd dx [("name", .str z)])) a (exo a C (some dx)))
theorem f_badI {CX : CXT} {C W f : Addr} {fd : FuncData} (R : ErrC K mg C W f) (d : DefM K "__init__" "BadArgument.__init__" s_BadArgument____init__ [] f fd) : FnOk P w K mg base CX 1 f fd ["self", "name"] (sp_badI C) := by
  refine FunD.ok d sc_BadArgument____init__ (fun vs H Q E h => ?_) (fun cdv A outer s H vs Q E hr h => ?_)
  · obtain ⟨a, z, rfl, _⟩ := h
    rfl
  · obtain ⟨a, z, rfl, hz, ha, q⟩ := h
    obtain ⟨mc, mr, mf⟩ := R.wr
    refine ⟨_, (pss_cons (ps_expr (pe_weinit rfl R.g_W R.wsp mr mf (pa_cons (pv 0) (pa_cons (pe_joined (.cons (pe_fmt (pv 1)) (.cons pe_str .nil))) pa_nil))))
  (pss_one (ps_ost (pv 0) (pv 1)))), ?_⟩
    walk_at "s"
    have e1 : z.length ≤ sizeLine := by rw [sizeLine_eq]; omega
    have e2 : (Str.empty ++ z).length ≤ sizeLine := by rw [Str.length_append]; rw [sizeLine_eq]; show 0 + z.length ≤ _; omega
    refine w_cons (w_var rfl (w_cons ⟨_, rfl, .inl ⟨z, rfl, e1, z, rfl, e2, _, rfl, ?_, ?_⟩⟩))
    · rw [Str.length_append, Str.length_append, sizeLine_eq]
      have e3 : (" is none of the told values" : Str).length ≤ 100 := by decide +kernel
      have e4 : Str.empty.length = 0 := rfl
      omega
    · exact ⟨a, C, _, rfl, by simp only [List.length_cons, List.length_nil]; omega, R.o, ha, _, rfl, _, rfl, a, C, rfl, R.o, R.no, .inl ⟨ha, fun dx n ne => q dx n ne⟩⟩
/-- BadArgument(z): a new dict, no more -/
theorem w_mkBad {C : Addr} {z : Str} {σ : L2.St} {H1 : Hp} {Q : XK} (hz : z.length ≤ 1000) (q : ∀ d H', New H1 H' d (.xd [("name", .str z)]) → Q (.ref C) (some d) H') : tMkO C (sp_badI C) [] (tCons (tC (.str z)) tNil) σ H1 Q := by
  refine w_cons (w_c (w_nil ⟨by simp only [List.length_cons, List.length_nil]; omega, fun a ha => ⟨a, z, rfl, hz, upd_same, fun dx n ne => ⟨rfl, dx, [("name", .str z)], upd_same, ?_, ?_, ?_⟩⟩⟩))
  · rw [upd_ne ne, upd_same]
  · rw [upd_ne ne] at n
    exact n
  · rw [made_heap ha ne]
    rw [upd_ne ne] at n
    exact q dx _ (New.of n)
theorem c_isP {D a dd : Addr} {fs : List (Str × V)} {c : V} {cv : Value} {b : Bool} {H : Hp} {Q : VK} (hd : H dd = some (.xd fs)) (hcv : ∀ u, RelV c u → u = cv) (e : PySem.W.kitOne K (.ref D) cv = some b) (q : Q (.bl b) H) : CB (rIsP K D a dd) [.ref a, c] H Q :=
  ⟨c, cv, b, fs, rfl, hcv, e, hd, q⟩
/-- _law_error of a BadArgument -/
def sp_err (C : Addr) : SpP := fun p vs H Q _ => ∃ (dd : Addr) (z : Str), vs = [.ref p.1] ∧ L2.Zc (.ref C) (some dd) p.2 ∧ (∃ us, p.2.data = .fields us) ∧ H dd = some (.xd [("name", .str z)]) ∧ ∀ t H', Upt [] H H' → H t = none → H' t = some (.tup [.str "BadArgument", .str z]) → Q (.ref t) H'
theorem e_err {C W fI f : Addr} {fd : FuncData} (T : Txt K mg aREG aOPS) (R : ErrC K mg C W fI) (d : FunT K "_law_refusal" s__law_refusal f fd) : FnE P w K mg base C8.CX0 1 f fd ["e"] (sp_err C) := by
  obtain ⟨oc, od, dV, kV, doc, pm, an, cdv, ct, osl, rfl, lk, hcd, _, _⟩ := d.ex
  obtain ⟨a1, g_SourceError, n1⟩ := R.others "SourceError" (by simp)
  obtain ⟨a2, g_Unknown, n2⟩ := R.others "Unknown" (by simp)
  obtain ⟨a3, g_Taken, n3⟩ := R.others "Taken" (by simp)
  obtain ⟨a4, g_NotAllowed, n4⟩ := R.others "NotAllowed" (by simp)
  obtain ⟨a5, g_WrongState, n5⟩ := R.others "WrongState" (by simp)
  obtain ⟨a6, g_RingOfWaits, n6⟩ := R.others "RingOfWaits" (by simp)
  obtain ⟨a7, g_Full, n7⟩ := R.others "Full" (by simp)
  obtain ⟨a8, g_Stopped, n8⟩ := R.others "Stopped" (by simp)
  replace g_SourceError : ∃ u, mg "SourceError" = some u ∧ RelV (.ref a1) u := ⟨_, g_SourceError, rfl⟩
  replace g_Unknown : ∃ u, mg "Unknown" = some u ∧ RelV (.ref a2) u := ⟨_, g_Unknown, rfl⟩
  replace g_Taken : ∃ u, mg "Taken" = some u ∧ RelV (.ref a3) u := ⟨_, g_Taken, rfl⟩
  replace g_NotAllowed : ∃ u, mg "NotAllowed" = some u ∧ RelV (.ref a4) u := ⟨_, g_NotAllowed, rfl⟩
  replace g_WrongState : ∃ u, mg "WrongState" = some u ∧ RelV (.ref a5) u := ⟨_, g_WrongState, rfl⟩
  replace g_RingOfWaits : ∃ u, mg "RingOfWaits" = some u ∧ RelV (.ref a6) u := ⟨_, g_RingOfWaits, rfl⟩
  replace g_Full : ∃ u, mg "Full" = some u ∧ RelV (.ref a7) u := ⟨_, g_Full, rfl⟩
  replace g_Stopped : ∃ u, mg "Stopped" = some u ∧ RelV (.ref a8) u := ⟨_, g_Stopped, rfl⟩
  have nAny : PySem.W.kitAny K (.ref C) ([a1, a2, a3, a4, a5, a6, a7, a8].map Value.ref) = some false := by
    simp only [List.map_cons, List.map_nil, PySem.W.kitAny, n1, n2, n3, n4, n5, n6, n7, n8]
  have g_BadArgument : ∃ u, mg "BadArgument" = some u ∧ RelV (.ref C) u := ⟨_, R.g_C, rfl⟩
  have g_WardError : ∃ u, mg "WardError" = some u ∧ RelV (.ref W) u := ⟨_, R.g_W, rfl⟩
  refine fn_ofE lk hcd sc__law_refusal (fun p vs H Q E h => ?_) (fun A outer s H vs Q E p hot hr h => ?_)
  · obtain ⟨dd, z, rfl, _⟩ := h
    rfl
  · obtain ⟨a, oe⟩ := p
    obtain ⟨dd, z, rfl, hz, hf, hd, q⟩ := h
    have hp : (a, oe) ∈ (L2H.cxH C8.CX0 P w K mg base nm__law_refusal "_law_refusal" (defScope s__law_refusal) f cdv A outer s H E (a, oe)).pn := List.mem_singleton.mpr rfl
    refine ⟨_, (pss_cons (ps_set (i := 1) sc__law_refusal.nd rfl (Or.inl rfl) (pe_lst pa_nil))
  (pss_cons (ps_if (pt_val (pe_callB (call_isP R.e hp hz hf) (by rfl) T.b_isinstance (by decide +kernel) (pa_cons (pv 0) (pa_cons (C8.pe_gc rfl g_BadArgument) pa_nil))))
    (pss_one (ps_expr (pe_bm PySem.F.plainAttrs_list PySem.F.slot_list_append PySem.F.type_list_append mt_append (pv 1) (pa_cons (pe_tup (pa_cons pe_str (pa_cons (pe_xfP R.x R.no hp hz hf (pv 0)) pa_nil))) pa_nil))))
    pss_nil)
  (pss_cons (ps_if (pt_val (pe_callB (call_isPT R.e hp hz hf) (by rfl) T.b_isinstance (by decide +kernel) (pa_cons (pv 0) (pa_cons (pe_tup (pa_cons (C8.pe_gc rfl g_SourceError) (pa_cons (C8.pe_gc rfl g_Unknown) (pa_cons (C8.pe_gc rfl g_Taken) (pa_cons (C8.pe_gc rfl g_NotAllowed) (pa_cons (C8.pe_gc rfl g_WrongState) (pa_cons (C8.pe_gc rfl g_RingOfWaits) (pa_cons (C8.pe_gc rfl g_Full) (pa_cons (C8.pe_gc rfl g_Stopped) pa_nil))))))))) pa_nil))))
    (pss_one ps_never)
    pss_nil)
  (pss_cons (ps_if (PW.pt (pw_or (pt_cmpR op_ne (pe_callB Wk.b_len (by rfl) T.b_len (by decide +kernel) (pa_cons (pv 1) pa_nil)) pe_int (nomark _)) (pw_or1 (pt_not (pt_val (pe_callB (call_isP R.e hp hz hf) (by rfl) T.b_isinstance (by decide +kernel) (pa_cons (pv 0) (pa_cons (pe_bltn (v := .ty "ValueError") (by rfl) R.vErr (by decide +kernel) rfl) pa_nil))))))))
    (pss_one ps_never)
    pss_nil)
  (pss_one (ps_ret (pe_ix ix_list (pv 1) pe_int (fun _ _ => rfl)))))))), ?_⟩
    walk_at "s"
    refine w_new (by decide) fun p2 H2 m2 => ?_
    have h2 := m2.keep.at0 hd
    walk_at "s"
    refine c_isP h2 (fun u r => r) R.isC ?_
    walk_at "s"
    refine w_kbm (ty_list (SqL.of m2.at_)) ?_
    walk_at "s"
    refine w_var rfl ⟨rfl, rfl, dd, _, .str z, rfl, h2, rfl, ?_⟩
    walk_at "s"
    refine w_new (by walk_at "sz") fun p3 H3 m3 => ?_
    walk_at "s"
    refine w_append (m3.keep.at0 m2.at_) (by decide) fun H4 g4 => ?_
    have t4 := g4.keep.at1 (m3.ne' m2.at_) m3.at_
    have d4 := g4.keep.at1 (m2.ne hd) (m3.keep.at0 h2)
    have U4 : Upt [] H H4 := Upt.chgNew (m2.keep.trans m3.keep) m2.no g4
    walk_at "s"
    refine w_new (by rw [sizeLine_eq]; simp only [List.length_cons, List.length_nil]; omega) fun p5 H5 m5 => ?_
    have d5 := m5.keep.at0 d4
    have t5 := m5.keep.at0 t4
    walk_at "s"
    refine c_isPT (cs := [a1, a2, a3, a4, a5, a6, a7, a8]) d5 (SqT.of m5.at_) nAny ?_
    walk_at "s"
    refine c_lenL (SqL.of (m5.keep.at0 g4.at_)) ?_
    walk_at "s"
    refine c_isP d5 (fun u r => by cases r; rfl) R.isV ?_
    walk_at "s"
    refine w_ixL (SqL.of (m5.keep.at0 g4.at_)) rfl ?_
    exact q p3 H5 (U4.trans m5.keep) (by
      cases e : H p3 with
      | none => rfl
      | some o => exact absurd (m2.keep.at0 e) (by rw [m3.no]; simp)) t5
/-- the same, in an except suite -/
def sp_errA (C a : Addr) (cls : Value) (d : Option Addr) : Sp := fun vs H Q _ => ∃ (dd : Addr) (z : Str), vs = [.ref a] ∧ cls = .ref C ∧ d = some dd ∧ H dd = some (.xd [("name", .str z)]) ∧ ∀ t H', Upt [] H H' → H t = none → H' t = some (.tup [.str "BadArgument", .str z]) → Q (.ref t) H'
theorem imp_err {C a : Addr} {oe : Obj} {cls : Value} {d : Option Addr} (hz : L2N.Zn cls d oe) (hf : ∃ vs, oe.data = .fields vs) : ∀ vs H Q E, sp_errA C a cls d vs H Q E → sp_err C (a, oe) vs H Q E := fun _ _ _ _ ⟨dd, z, h1, h2, h3, h4, q⟩ =>
  ⟨dd, z, h1, by subst h2 h3; exact ⟨hz.1, hz.2.1⟩, hf, h4, q⟩
theorem hot_err {A : Around} {a : Addr} {oe : Obj} {cls : Value} {d : Option Addr} (hz : L2N.Zn cls d oe) (hf : ∃ vs, oe.data = .fields vs) : L2H.Hot1 (A.mark (some (.ref a))) (a, oe) := ⟨rfl, let ⟨vs, e⟩ := hf; ⟨vs, e, hz.2.2 vs e⟩⟩
theorem rH {A : Around} {x : Option Value} {j : Nat} (hr : Room (j + 1) A) : L2H.RoomH 1 (A.mark x) := L2H.RoomH.mono (k := j + 1) ⟨hr.dp, hr.un⟩ (by omega)
end
end K45
set_option Elab.async false
set_option linter.all false
set_option maxRecDepth 100000
set_option maxHeartbeats 4000000
namespace K45
open PySem PySem.Spec PyProof.Rows L2 Wk
local macro_rules | `(tactic| walk_at "u1") => `(tactic| fail "no more")
local macro_rules | `(tactic| walk_at "pos") => `(tactic| first | assumption | omega | decide | (simp only [Int.ofNat_eq_natCast] at *; omega))
local macro_rules | `(tactic| walk_at "sz") => `(tactic| first
  | (simp only [List.length_cons, List.length_nil]; decide)
  | exact Evl.sz_of (by omega)
  | exact Evl.sz_lt (by omega)
  | exact Evl.sz_of (by simp only [List.length_map, List.length_append, List.length_cons, List.length_nil, List.length_replicate]; omega)
  | exact Evl.sz_lt (by simp only [List.length_map, List.length_append, List.length_cons, List.length_nil, List.length_replicate]; omega))
local macro_rules | `(tactic| walk_at "cond") => `(tactic| first
  | exact Or.inr ⟨by decide, by decide⟩
  | (show (0 : Int) < _; first | decide | assumption | omega)
  | exact Or.inl ⟨by omega, by omega⟩
  | exact Or.inr ⟨by omega, by omega⟩
  | exact ⟨by decide, by decide, by decide⟩
  | exact log2_lt (by omega) (by omega)
  | exact ⟨by omega, by omega⟩)
local macro_rules | `(tactic| walk_at "ty") => `(tactic| first
  | exact ty_int | exact ty_bl | exact ty_str | exact ty_non
  | exact ty_L (by assumption) | exact ty_T (by assumption)
  | exact ty_L (SqL.of (by assumption)) | exact ty_T (SqT.of (by assumption)))
local macro_rules | `(tactic| walk_at "kit") => `(tactic| first
  | exact k_ii | exact k_ib | exact k_is | exact k_il | exact k_it
  | exact k_bb | exact k_bi | exact k_bs | exact k_bl | exact k_bt
  | exact k_ss | exact k_sb | exact k_si | exact k_sl | exact k_st
  | exact k_ll | exact k_lb | exact k_li | exact k_ls | exact k_lt
  | exact k_tt | exact k_tb | exact k_ti | exact k_ts | exact k_tl
  | exact k_nn | exact k_ni | exact k_ns | exact k_nl | exact k_nt)
local macro_rules | `(tactic| walk_at "s1") => `(tactic| first
  | with_reducible refine w_seq ?_
  | with_reducible refine w_set ?_
  | with_reducible refine w_op ?_
  | ((with_reducible refine' w_var ?h1 ?_); (case h1 => rfl))
  | with_reducible refine w_c ?_
  | with_reducible refine w_cb ?_
  | with_reducible refine w_cons ?_
  | with_reducible refine w_nil ?_
  | with_reducible refine w_I0 ?_
  | ((with_reducible refine' w_I ?c1 ?_); case c1 => walk_at "cond")
  | with_reducible refine w_ret ?_
  | with_reducible refine w_next ?_
  | with_reducible refine w_ifS ?_
  | with_reducible refine w_test ?_
  | with_reducible refine w_tB ?_
  | with_reducible refine w_k ?_
  | with_reducible refine w_eqI ?_
  | with_reducible refine w_neI ?_
  | with_reducible refine w_eqS ?_
  | with_reducible refine w_neS ?_
  | with_reducible refine w_and ?_
  | with_reducible refine w_or ?_
  | with_reducible refine w_not ?_
  | with_reducible refine w_andV ?_
  | with_reducible refine w_orV ?_
  | with_reducible refine w_notV ?_
  | with_reducible refine w_ifE ?_
  | with_reducible refine w_true ?_
  | with_reducible refine w_false ?_
  | with_reducible refine w_ntrue ?_
  | with_reducible refine w_nfalse ?_
  | with_reducible refine w_call ?_
  | with_reducible refine c_int ?_
  | with_reducible refine c_abs ?_
  | with_reducible refine c_max ?_
  | with_reducible refine c_min ?_
  | with_reducible refine w_drop ?_
  | with_reducible refine w_sfld ?_
  | with_reducible refine w_meth ?_
  | with_reducible refine w_make ?_
  | with_reducible refine w_prop ?_
  | with_reducible refine w_callK ?_
  | with_reducible refine w_callN ?_
  | with_reducible refine w_star ?_
  | with_reducible refine w_gcons ?_
  | with_reducible refine w_gname ?_
  | with_reducible refine w_gnil ?_
  | with_reducible refine w_retN ?_
  | with_reducible refine w_tup ?_
  | with_reducible refine w_lst ?_
  | with_reducible refine w_fld ?_
  | with_reducible refine w_bm ?_
  | with_reducible refine w_bm0 ?_
  | with_reducible refine w_forL ?_
  | with_reducible refine w_forT ?_
  | with_reducible refine w_forS ?_
  | with_reducible refine w_forR ?_
  | with_reducible refine w_lcR ?_
  | with_reducible refine w_lcL ?_
  | with_reducible refine w_lcT ?_
  | with_reducible refine w_isN ?_
  | with_reducible refine w_notN ?_
  | with_reducible refine w_asg ?_
  | with_reducible refine w_gsub ?_
  | ((with_reducible refine' w_aug ?h1 ?_); (case h1 => rfl))
  | with_reducible refine w_augS ?_
  | with_reducible refine w_ipI ?_
  | with_reducible refine w_un ?_
  | with_reducible refine w_U ?_
  | ((with_reducible refine' w_iteF ?f1 ?_); case f1 => (first | (intro h; cases h; done) | decide))
  | ((with_reducible refine' w_iteT ?f1 ?_); case f1 => rfl)
  | ((with_reducible refine' w_iteNF ?f1 ?_); case f1 => rfl)
  | ((with_reducible refine' w_iteNT ?f1 ?_); case f1 => (first | (intro h; cases h; done) | decide))
  | ((with_reducible refine' c_isi ?t1 ?k1 ?_); (case t1 => walk_at "ty"); (case k1 => walk_at "kit"))
  | ((with_reducible refine' w_eq ?e1 ?_); case e1 => rfl)
  | ((with_reducible refine' w_ne ?e1 ?_); case e1 => rfl)
  | walk_at "u1")
local macro_rules | `(tactic| walk_at "s") => `(tactic| repeat walk_at "s1")
local macro_rules | `(tactic| walk_at "mem") => `(tactic| first | with_reducible exact List.mem_cons_self .. | ((with_reducible refine' List.mem_cons_of_mem _ ?q); (case q => walk_at "mem")) | assumption | ((with_reducible refine' List.mem_append_right _ ?q); (case q => walk_at "mem")) | (exact List.mem_append_left _ (by assumption)))
local macro_rules | `(tactic| walk_at "pk") => `(tactic| first | with_reducible exact Pk.here | ((with_reducible refine' Pk.there ?q); (case q => walk_at "pk")) | ((with_reducible refine' Pk.app ?q); (case q => walk_at "pk")))
local macro_rules | `(tactic| walk_at "pkb") => `(tactic| first | with_reducible exact PkB.here | ((with_reducible refine' PkB.there ?q); (case q => walk_at "pkb")) | ((with_reducible refine' PkB.app ?q); (case q => walk_at "pkb")))
local macro_rules | `(tactic| walk_at "spl") => `(tactic| first | with_reducible exact Spl.nil | ((with_reducible refine' Spl.cons ?h ?t); (case h => walk_at "pk"); (case t => walk_at "spl")) | ((with_reducible refine' Spl.blk ?h ?t); (case h => walk_at "pkb"); (case t => walk_at "spl")))
local macro_rules | `(tactic| walk_at "sbx") => `(tactic| first | with_reducible exact Sb.refl | with_reducible exact Sb.nil | with_reducible exact Sb.left | ((with_reducible refine' Sb.cons ?h ?t); (case h => walk_at "pk"); (case t => walk_at "sbx")) | ((with_reducible refine' Sb.blk ?h ?t); (case h => walk_at "pkb"); (case t => walk_at "sbx")) | ((with_reducible refine' Sb.drop ?q); (case q => walk_at "sbx")) | ((with_reducible refine' Sb.right ?q); (case q => walk_at "sbx")))
local macro_rules | `(tactic| walk_at "hd") => `(tactic| first | assumption | exact Hd.sb (by assumption) (by walk_at "sbx"))
local macro_rules | `(tactic| walk_at "sq") => `(tactic| first
  | assumption
  | exact Hd.sqL (by assumption) (by walk_at "mem")
  | exact Hd.sqT (by assumption) (by walk_at "mem")
  | exact Hd.sqF (by assumption) (by walk_at "mem")
  | (refine .inl ?_; walk_at "sq")
  | (refine .inr ?_; walk_at "sq"))
local macro_rules | `(tactic| walk_at "at") => `(tactic| first | rfl | assumption | exact atI_nat (by assumption))
local macro_rules | `(tactic| walk_at "dn1") => `(tactic| first
  | exact Dn.int | exact Dn.str | exact Dn.non | exact Dn.bl | assumption
  | ((refine' Dn.tp ?a1 ?m1 ?l1 ?p1); (case a1 => assumption); (case m1 => walk_at "mem"); (case l1 => (simp only [List.length_cons, List.length_nil]; omega)); (case p1 => walk_at "dns"))
  | ((refine' Dn.lt ?a1 ?m1 ?l1 ?p1); (case a1 => assumption); (case m1 => walk_at "mem"); (case l1 => (simp only [List.length_cons, List.length_nil]; omega)); (case p1 => walk_at "dns")))
local macro_rules | `(tactic| walk_at "dns") => `(tactic| first | exact Paired.nil | exact Dn.ints | ((refine' Paired.cons ?a1 ?b1); (case a1 => walk_at "dn1"); (case b1 => walk_at "dns")))
local macro_rules | `(tactic| walk_at "g1") => `(tactic| first
  | ((with_reducible refine' g_ixI ?h1 ?h2 ?h3 ?_); (case h1 => assumption); (case h2 => walk_at "mem"); (case h3 => omega); intro z hz)
  | ((with_reducible refine' g_ixIT ?h1 ?h2 ?h3 ?_); (case h1 => assumption); (case h2 => walk_at "mem"); (case h3 => omega); intro z hz)
  | ((with_reducible refine' g_setI ?h1 ?h2 ?h3 ?_); (case h1 => assumption); (case h2 => walk_at "pk"); (case h3 => omega); intro H2 hh2)
  | ((with_reducible refine' w_ixL ?h1 ?h2 ?_); (case h1 => walk_at "sq"); (case h2 => walk_at "at"))
  | ((with_reducible refine' w_ixT ?h1 ?h2 ?_); (case h1 => walk_at "sq"); (case h2 => walk_at "at"))
  | ((with_reducible refine' w_ixAny ?h1 ?h2 ?_); (case h1 => walk_at "sq"); (case h2 => walk_at "at"))
  | ((with_reducible refine' c_lenA ?h1 ?_); (case h1 => walk_at "sq"))
  | ((with_reducible refine' c_isi ?t1 ?k1 ?_); (case t1 => first | exact ty_T (by walk_at "sq") | exact ty_L (by walk_at "sq")); (case k1 => walk_at "kit"))
  | ((with_reducible refine' g_lst ?h1 ?h2 ?_); (case h1 => assumption); (case h2 => walk_at "sz"); intro p H2 hh2)
  | ((with_reducible refine' g_tup ?h1 ?h2 ?_); (case h1 => assumption); (case h2 => walk_at "sz"); intro p H2 hh2)
  | ((with_reducible refine' g_dict ?h1 ?_); (case h1 => assumption); intro p H2 hh2)
  | ((with_reducible refine' g_listL ?h1 ?h2 ?_); (case h1 => assumption); (case h2 => walk_at "sq"); intro p H2 hh2)
  | ((with_reducible refine' g_listT ?h1 ?h2 ?_); (case h1 => assumption); (case h2 => walk_at "sq"); intro p H2 hh2)
  | ((with_reducible refine' g_tupL ?h1 ?h2 ?_); (case h1 => assumption); (case h2 => walk_at "sq"); intro p H2 hh2)
  | ((with_reducible refine' g_set ?h1 ?h2 ?h3 ?_); (case h1 => assumption); (case h2 => walk_at "pk"); (case h3 => first | rfl | assumption | exact Evl.ixN_nat (by first | omega | (simp only [List.length_cons, List.length_nil]; omega))); intro H2 hh2)
  | ((with_reducible refine' g_kbm ?h1 ?h2 ?_); (case h1 => assumption); (case h2 => walk_at "mem"))
  | ((with_reducible refine' g_kbm0 ?h1 ?h2 ?_); (case h1 => assumption); (case h2 => walk_at "mem"))
  | ((with_reducible refine' g_app ?h1 ?h2 ?h3 ?_); (case h1 => assumption); (case h2 => walk_at "pk"); (case h3 => walk_at "sz"); intro H2 hh2)
  | ((with_reducible refine' g_kapp ?h1 ?h2 ?h3 ?_); (case h1 => assumption); (case h2 => walk_at "pk"); (case h3 => walk_at "sz"); intro H2 hh2)
  | ((with_reducible refine' g_fld ?h1 ?h2 ?h3 ?h4 ?h5 ?_); (case h1 => assumption); (case h2 => walk_at "mem"); (case h3 => assumption); (case h4 => assumption); (case h5 => rfl))
  | ((with_reducible refine' g_sfld ?h1 ?h2 ?h3 ?h4 ?h5 ?_); (case h1 => assumption); (case h2 => walk_at "pk"); (case h3 => assumption); (case h4 => assumption); (case h5 => decide); intro H2 hh2)
  | ((with_reducible refine' g_meth ?h1 ?h2 ?h3 ?_); (case h1 => assumption); (case h2 => walk_at "mem"); (case h3 => rfl))
  | ((with_reducible refine' g_prop ?h1 ?h2 ?_); (case h1 => assumption); (case h2 => walk_at "mem"))
  | ((with_reducible refine' g_make ?h1 ?_); (case h1 => assumption); intro x H2 hh2)
  | ((with_reducible refine' g_cat ?h1 ?h2 ?h3 ?h4 ?_); (case h1 => assumption); (case h2 => walk_at "mem"); (case h3 => walk_at "mem"); (case h4 => walk_at "sz"); intro p H2 hh2)
  | ((with_reducible refine' g_inT ?h1 ?h2 ?h3 ?h4 ?h5 ?_); (case h1 => assumption); (case h2 => walk_at "mem"); (case h3 => rfl); (case h4 => rfl); (case h5 => rfl)))
local macro_rules | `(tactic| walk_at "gs") => `(tactic| repeat first | walk_at "s1" | walk_at "g1")
local macro_rules | `(tactic| walk_at "ite") => `(tactic| first
  | ((with_reducible refine' w_iteT ?h1 ?_); (case h1 => omega))
  | ((with_reducible refine' w_iteF ?h1 ?_); (case h1 => omega))
  | (with_reducible refine w_ite ?_ ?_ <;> intro hq)
  | ((with_reducible refine' w_iteNT ?h1 ?_); (case h1 => omega))
  | ((with_reducible refine' w_iteNF ?h1 ?_); (case h1 => omega))
  | (with_reducible refine w_iteN ?_ ?_ <;> intro hq))
local macro_rules | `(tactic| walk_at "go") => `(tactic| repeat' first | walk_at "s1" | walk_at "g1" | walk_at "ite")
local macro_rules | `(tactic| walk_at "g1") => `(tactic| first
  | ((with_reducible refine' g_take1 ?h1 ?h2 ?h3 ?h4 ?_); (case h1 => assumption); (case h2 => walk_at "spl"); (case h3 => omega); (case h4 => omega); intro k H2 hk1 hh2)
  | ((with_reducible refine' g_take ?h1 ?h2 ?h4 ?_); (case h1 => assumption); (case h2 => walk_at "spl"); (case h4 => omega); intro k H2 hk1 hh2)
  | ((with_reducible refine' g_betweenN ?h1 ?h2 ?h5 ?h3 ?h4 ?_); (case h1 => assumption); (case h2 => walk_at "spl"); (case h5 => omega); (case h3 => omega); (case h4 => omega); intro k H2 hk1 hk2 hh2)
  | ((with_reducible refine' g_between ?h1 ?h2 ?h3 ?h4 ?_); (case h1 => assumption); (case h2 => walk_at "spl"); (case h3 => omega); (case h4 => omega); intro k H2 hk1 hk2 hh2)
  | ((with_reducible refine' g_size ?h1 ?h2 ?h3 ?h4 ?_); (case h1 => assumption); (case h2 => walk_at "spl"); (case h3 => omega); (case h4 => omega); intro k H2 hk1 hh2)
  | ((with_reducible refine' g_word ?h1 ?h2 ?_); (case h1 => assumption); (case h2 => walk_at "spl"); intro k H2 hk1 hh2))
section
variable {P : Program} {w : World} {K : PySem.W.Frag} {mg : Str → Option Value} {base : Heap} {aREG aOPS : Addr}
section
variable {C CE W fI fE : Addr} {fdE : FuncData}
/-- BadArgument(x): a new dict, no more -/
theorem w_mkBadV {C : Addr} {z : Str} {i : Nat} {σ : L2.St} {H1 : Hp} {Q : XK} (hv : σ[i]? = some (some (.str z))) (hz : z.length ≤ 1000) (q : ∀ d H', New H1 H' d (.xd [("name", .str z)]) → Q (.ref C) (some d) H') : tMkO C (sp_badI C) [] (tCons (tVar i) tNil) σ H1 Q := by
  refine w_cons (w_var hv (w_nil ⟨by simp only [List.length_cons, List.length_nil]; omega, fun a ha => ⟨a, z, rfl, hz, upd_same, fun dx n ne => ⟨rfl, dx, [("name", .str z)], upd_same, ?_, ?_, ?_⟩⟩⟩))
  · rw [upd_ne ne, upd_same]
  · rw [upd_ne ne] at n
    exact n
  · rw [made_heap ha ne]
    rw [upd_ne ne] at n
    exact q dx _ (New.of n)
def sp_askX (K : PySem.W.Frag) (C : Addr) : Sp := fun vs H Q E => ∃ (z : Str) (v : V) (t : String) (lo hi : Int), vs = [.str z, v, .int lo, .int hi] ∧ z.length ≤ 1000 ∧ KH K H v t ∧ isR v lo hi = false ∧ ∀ H' d, New H H' d (.xd [("name", .str z)]) → E (.ref C) (some d) H'
theorem x_ask {C W fI : Addr} {fdI : FuncData} (T : Txt K mg aREG aOPS) (R : ErrC K mg C W fI) (dI : DefM K "__init__" "BadArgument.__init__" s_BadArgument____init__ [] fI fdI) (d : DefAt K mg "ask_range" s_ask_range)
    (c_is_in_range : C8.Cal P w K mg base 2 "is_in_range" (sp_range K) []) : CalN P w K mg base 3 "ask_range" (sp_askX K C) := by
  obtain ⟨f, fd, F, hm⟩ := d
  have bI : Binds K fdI ["self", "name"] [] := FunD.bindsN dI fun _ _ _ _ _ _ us hl => match us, hl with | [_, _], _ => rfl
  refine ⟨f, fd, ["name", "number", "least", "most"], FunD.ok F sc_ask_range (fun vs H Q E h => ?_) (fun cdv A outer s H vs Q E hr h => ?_), hm, F.kp, FunD.bindsN F fun _ _ _ _ _ _ us hl => match us, hl with | [_, _, _, _], _ => rfl⟩
  · obtain ⟨z, v, t, lo, hi, rfl, _⟩ := h
    rfl
  · obtain ⟨z, v, t, lo, hi, rfl, hz, kh, hb, q⟩ := h
    have F_init := f_badI (P := P) (w := w) (base := base) (CX := L2N.CX P w) R dI
    have tk := L2N.takes_of (X := cxOf (L2N.CX P w) P w K mg base nm_ask_range "ask_range" (defScope s_ask_range) f cdv A outer s H E) (E := E) rfl rfl rfl rfl
    refine ⟨_, (pss_one (ps_if (pt_not (pt_val (C8.pe_c c_is_in_range hr (by first | decide | omega) rfl (pa_cons (pv 1) (pa_cons (pv 2) (pa_cons (pv 3) pa_nil))))))
    (pss_one (L2N.ps_raise rfl tk (pmk_oexN R.o R.init R.fn F_init (hr.mono (by omega)) bI .nil passN rfl R.g_C (pa_cons (pv 0) pa_nil))))
    pss_nil)), ?_⟩
    walk_at "s"
    refine u_range kh ?_
    rw [hb]
    walk_at "s"
    exact w_mkBadV rfl hz fun d H' n => q H' d n
def sp_askWX (K : PySem.W.Frag) (C : Addr) : Sp := fun vs H Q E => ∃ (z : Str) (v : V) (t : String), vs = [.str z, v] ∧ z.length ≤ 1000 ∧ KH K H v t ∧ isR v 0 65535 = false ∧ ∀ H' d, New H H' d (.xd [("name", .str z)]) → E (.ref C) (some d) H'
theorem x_askW {C W fI : Addr} {fdI : FuncData} (T : Txt K mg aREG aOPS) (R : ErrC K mg C W fI) (dI : DefM K "__init__" "BadArgument.__init__" s_BadArgument____init__ [] fI fdI) (d : DefAt K mg "ask_word" s_ask_word)
    (c_is_word : C8.Cal P w K mg base 3 "is_word" (sp_word1 K) []) : CalN P w K mg base 4 "ask_word" (sp_askWX K C) := by
  obtain ⟨f, fd, F, hm⟩ := d
  have bI : Binds K fdI ["self", "name"] [] := FunD.bindsN dI fun _ _ _ _ _ _ us hl => match us, hl with | [_, _], _ => rfl
  refine ⟨f, fd, ["name", "word"], FunD.ok F sc_ask_word (fun vs H Q E h => ?_) (fun cdv A outer s H vs Q E hr h => ?_), hm, F.kp, FunD.bindsN F fun _ _ _ _ _ _ us hl => match us, hl with | [_, _], _ => rfl⟩
  · obtain ⟨z, v, t, rfl, _⟩ := h
    rfl
  · obtain ⟨z, v, t, rfl, hz, kh, hb, q⟩ := h
    have F_init := f_badI (P := P) (w := w) (base := base) (CX := L2N.CX P w) R dI
    have tk := L2N.takes_of (X := cxOf (L2N.CX P w) P w K mg base nm_ask_word "ask_word" (defScope s_ask_word) f cdv A outer s H E) (E := E) rfl rfl rfl rfl
    refine ⟨_, (pss_one (ps_if (pt_not (pt_val (C8.pe_c c_is_word hr (by first | decide | omega) rfl (pa_cons (pv 1) pa_nil))))
    (pss_one (L2N.ps_raise rfl tk (pmk_oexN R.o R.init R.fn F_init (hr.mono (by omega)) bI .nil passN rfl R.g_C (pa_cons (pv 0) pa_nil))))
    pss_nil)), ?_⟩
    walk_at "s"
    refine u_isword kh ?_
    rw [show isW v = false from hb]
    walk_at "s"
    exact w_mkBadV rfl hz fun d H' n => q H' d n
def sp_sendX (K : PySem.W.Frag) (CE : Addr) : Sp := fun vs H Q E => ∃ (o : Addr) (v : V) (t : String), vs = [.ref o, v] ∧ KH K H v t ∧ isR v 0 65535 = false ∧ ∀ H' d, New H H' d (.xd [("name", .str "word")]) → E (.ref CE) (some d) H'
theorem x_send (T : Txt K mg aREG aOPS) (d : MetAt K C "send" "Pipe.send" s_Pipe__send) (cw : CalN P w K mg base 4 "ask_word" (sp_askWX K CE)) : MetN P w K mg base 5 C "send" (sp_sendX K CE) ["word"] (fun vs zs => vs ++ zs) := by
  obtain ⟨f, fd, F, hc', hm⟩ := d
  have F : FunD K "send" "Pipe.send" (defArgs s_Pipe__send) (defBody s_Pipe__send) (defScope s_Pipe__send) [] [] f fd := F
  refine ⟨f, fd, ["self", "word"], fun us ws => us ++ ws, hc', hm, F.ok sc_Pipe__send (fun vs H Q E h => ?_) (fun cdv A outer s H vs Q E hr h => ?_), F.bindsN fun _ _ _ _ _ _ us hl => match us, hl with | [_, _], _ => rfl, kbn0 F (fun r1 r2 => r1.append r2) fun _ _ _ _ _ _ us ws h1 h2 => match us, ws, h1, h2 with | [_], [_], _, _ => rfl⟩
  · obtain ⟨o, v, t, rfl, _⟩ := h
    rfl
  · obtain ⟨o, v, t, rfl, kh, hb, q⟩ := h
    have tk := L2N.takes_of (X := cxOf (L2N.CX P w) P w K mg base nm_Pipe__send "Pipe.send" (defScope s_Pipe__send) f cdv A outer s H E) (E := E) rfl rfl rfl rfl
    refine ⟨_, pss_cons (ps_expr (pe_cN cw hr (by decide) tk rfl (pa_cons pe_str (pa_cons (pv 1) pa_nil)))) pss_never, ?_⟩
    walk_at "s"
    unfold tCallS
    walk_at "s"
    exact ⟨"word", v, t, rfl, by decide +kernel, kh, hb, fun H' d n => q H' d n⟩
theorem new_tup' {H H' : Hp} {L : List Cell} {t : Addr} {xs : List V} (h : Hd H L) (u : Upt [] H H') (n : H t = none) (e : H' t = some (.tup xs)) : Hd H' (tupC t xs :: L) := by
  have h' := h.upt0 u
  refine ⟨List.nodup_cons.mpr ⟨fun z => ?_, h'.nd⟩, fun c hc => ?_⟩
  · obtain ⟨c, hc, ec⟩ := List.mem_map.mp z
    obtain ⟨o, ho, _⟩ := h.at_ c hc
    rw [ec, show (tupC t xs).1 = t from rfl, n] at ho
    cases ho
  · rcases List.mem_cons.mp hc with rfl | hc
    · exact ⟨_, e, rfl⟩
    · exact h'.at_ c hc
def KMK (C : Addr) (m : Str) (n : Nat) (sp : Sp) (gV : List V → List V → List V) (E : L2.St → XK) (tk : TA) (σ : L2.St) (Q : VK) (x : V) (H1 : Hp) : Prop := ∃ a dx fs, x = .ref a ∧ H1 a = some (.ins C dx fs) ∧ fs.lookup m = none ∧ tk σ H1 fun zs H2 => zs.length = n ∧ sp (gV [x] zs) H2 Q (E σ)
theorem w_methK {C : Addr} {m : Str} {n : Nat} {sp : Sp} {gV : List V → List V → List V} {E : L2.St → XK} {ta : TE} {tk : TA} {σ : L2.St} {H : Hp} {Q : VK} (h : ta σ H fun x H1 => KMK C m n sp gV E tk σ Q x H1) : tMethK C m n sp gV E ta tk σ H Q := h
theorem g_methK {C a : Addr} {m : Str} {n : Nat} {sp : Sp} {gV : List V → List V → List V} {E : L2.St → XK} {tk : TA} {σ : L2.St} {H : Hp} {Q : VK} {L : List Cell} {fs : List (Str × V)} (hh : Hd H L) (k : insC a C fs ∈ L) (l : fs.lookup m = none) (h : tk σ H fun zs H2 => zs.length = n ∧ sp (gV [.ref a] zs) H2 Q (E σ)) : KMK C m n sp gV E tk σ Q (.ref a) H := let ⟨dx, e⟩ := hh.ins k; ⟨a, dx, fs, rfl, e, l, h⟩
def KME (C : Addr) (m : Str) (sp : Sp) (E : L2.St → XK) (tk : TA) (σ : L2.St) (Q : VK) (x : V) (H1 : Hp) : Prop := ∃ a dx fs, x = .ref a ∧ H1 a = some (.ins C dx fs) ∧ fs.lookup m = none ∧ tk σ H1 fun zs H2 => sp (x :: zs) H2 Q (E σ)
theorem w_methE {C : Addr} {m : Str} {sp : Sp} {E : L2.St → XK} {ta : TE} {tk : TA} {σ : L2.St} {H : Hp} {Q : VK} (h : ta σ H fun x H1 => KME C m sp E tk σ Q x H1) : tMethE C m sp E ta tk σ H Q := h
theorem g_methE {C a : Addr} {m : Str} {sp : Sp} {E : L2.St → XK} {tk : TA} {σ : L2.St} {H : Hp} {Q : VK} {L : List Cell} {fs : List (Str × V)} (hh : Hd H L) (k : insC a C fs ∈ L) (l : fs.lookup m = none) (h : tk σ H fun zs H2 => sp (.ref a :: zs) H2 Q (E σ)) : KME C m sp E tk σ Q (.ref a) H := let ⟨dx, e⟩ := hh.ins k; ⟨a, dx, fs, rfl, e, l, h⟩
/-- a call of the pipe -/
def nxtW (room : Nat) (ws : List Int) : PCall → List Int
  | .send x _ => if ws.length = room then ws else ws ++ [x]
  | .bad _ _ => ws
  | .recv => ws.tail
def nxtO (ws : List Int) (out : Nat) : PCall → Nat
  | .recv => match ws with
    | [] => out
    | _ :: _ => out + 1
  | _ => out
def sp_called (K : PySem.W.Frag) (C : Addr) : Sp := fun vs H Q _ => ∃ (o l t : Addr) (cl : PCall) (room out : Nat) (ws : List Int) (R : List Cell), vs = [.ref o, .ref t] ∧ CallOk K R cl ∧ ws.length ≤ 100 ∧ tupC t (cV cl) ∈ R ∧ Hd H (pipI C o room l out :: lstC l (ws.map V.int) :: R) ∧
  ∀ u H', Hd H' (tupC u (ansV room ws cl) :: pipI C o room l (nxtO ws out cl) :: lstC l ((nxtW room ws cl).map V.int) :: R) → Q (.ref u) H'
theorem c_called (T : Txt K mg aREG aOPS) (R : ErrC K mg CE W fI) (d : DefAt K mg "_law_called" s__law_called) (c_Pipe_send : C8.Met P w K mg base 5 C "send" (sp_send C) []) (ck_send : MetK P w K mg base 5 C "send" (sp_send C) ["word"] (fun vs zs => vs ++ zs)) (c_Pipe_receive : C8.Met P w K mg base 1 C "receive" (sp_recv C) []) (cx_send : MetN P w K mg base 5 C "send" (sp_sendX K CE) ["word"] (fun vs zs => vs ++ zs))
    (F_err : FnE P w K mg base C8.CX0 1 fE fdE ["e"] (sp_err CE)) (F_errM : mg "_law_refusal" = some (.ref fE)) (F_errK : PySem.W.keepIn K (.ref fE) = true) (F_errB : Binds K fdE ["e"] []) : C8.Cal P w K mg base 6 "_law_called" (sp_called K C) [] := by
  refine mk d sc__law_called (fun _ _ _ _ _ _ us hl => match us, hl with | [_, _], _ => rfl) (fun vs H Q E h => ?_) (fun f cdv A outer s H vs Q E hr h => ?_)
  · obtain ⟨o, l, t, cl, room, out, ws, R, rfl, _⟩ := h
    rfl
  · obtain ⟨o, l, t, cl, room, out, ws, R0, rfl, hc, hl, mt, hh, q⟩ := h
    cases cl with
    | send x k =>
      refine ⟨_, (pss_one (L2N.ps_try_as rfl rfl sc__law_called.nd (i := 2) rfl rfl ⟨rfl, by decide, .inl R.g_W⟩ takes0N (fun W pn xe tk pw => (pss_cons (ps_if (PW.pt (pw_and (pt_cmpR op_eq (pe_ix (show IxR _ (rIxT _) from ix_tup) (pv 1) pe_int (fun _ _ => rfl)) pe_str (nomark _)) (pw_and1 (pt_cmpR op_eq (pe_ix (show IxR _ (rIxT _) from ix_tup) (pv 1) pe_int (fun _ _ => rfl)) pe_int (nomark _)))))
        (pss_one (ps_ret (pe_tup (pa_cons pe_str (pa_cons (Wk.pe_mtK ck_send hr (by first | decide | omega) (pv 0) (pk_cons (pe_ix (show IxR _ (rIxT _) from ix_tup) (pv 1) pe_int (fun _ _ => rfl)) pk_nil)) pa_nil)))))
        pss_nil)
      (pss_cons (ps_if (pt_cmpR op_eq (pe_ix (show IxR _ (rIxT _) from ix_tup) (pv 1) pe_int (fun _ _ => rfl)) pe_str (nomark _))
        (pss_one (ps_ret (pe_tup (pa_cons pe_str (pa_cons (C8.pe_mt c_Pipe_send hr (by first | decide | omega) (pv 0) (pa_cons (pe_ix (show IxR _ (rIxT _) from ix_tup) (pv 1) pe_int (fun _ _ => rfl)) pa_nil)) pa_nil)))))
        pss_nil)
      (pss_one (ps_ret (pe_tup (pa_cons pe_str (pa_cons (C8.pe_mt0 c_Pipe_receive hr (by first | decide | omega) (pv 0)) pa_nil)))))))) (fun a oe cls d pn hz hf => pss_one (ps_ret (pe_callE (E := fun _ => C8.E0) (imp_err hz hf) F_err (rH hr) (hot_err hz hf) (List.mem_cons_self ..) rfl F_errM F_errK F_errB (fun _ _ _ _ _ _ _ h => h.elim) (pa_cons (pv 2) pa_nil)))))), ?_⟩
      have mt : tupC t [V.str (Str.ofString "send"), V.int x, V.int (k : Int)] ∈ R0 := mt
      obtain ⟨⟨h0, h1⟩, hk⟩ := hc
      have fin1 : ∀ (H1 : Hp), ws.length = room → Hd H1 (pipI C o room l out :: lstC l (ws.map V.int) :: R0) → ∀ u H', Hd H' (tupC u [.str "answer", .bl false] :: pipI C o room l out :: lstC l (ws.map V.int) :: R0) → Q (.ref u) H' := fun H1 e _ u H' h => q u H' (by
        have e1 : ansV room ws (.send x k) = [.str "answer", .bl false] := by simp [ansV, e]
        have e2 : nxtW room ws (.send x k) = ws := by simp [nxtW, e]
        rw [e1, e2]
        exact h)
      have fin2 : ∀ (H1 : Hp), ws.length ≠ room → Hd H1 (pipI C o room l out :: lstC l ((ws ++ [x]).map V.int) :: R0) → ∀ u H', Hd H' (tupC u [.str "answer", .bl true] :: pipI C o room l out :: lstC l ((ws ++ [x]).map V.int) :: R0) → Q (.ref u) H' := fun H1 e _ u H' h => q u H' (by
        have e1 : ansV room ws (.send x k) = [.str "answer", .bl true] := by simp [ansV, e]
        have e2 : nxtW room ws (.send x k) = ws ++ [x] := by simp [nxtW, e]
        rw [e1, e2]
        exact h)
      walk_at "gs"
      refine w_ite (fun e => ?_) (fun e => ?_)
      · walk_at "gs"
        refine w_methK ?_
        walk_at "gs"
        refine g_methK hh (by walk_at "mem") rfl ?_
        walk_at "gs"
        refine ⟨rfl, o, l, room, out, ws, x, R0, rfl, h0, h1, hl, hh, fun e H' h => ?_, fun e H' h => ?_⟩
        · walk_at "gs"
          rename_i u H2 h2
          exact fin1 H' e h u H2 h2
        · walk_at "gs"
          rename_i u H2 h2
          exact fin2 H' e h u H2 h2
      · walk_at "gs"
        refine ⟨o, l, room, out, ws, x, R0, rfl, h0, h1, hl, hh, fun e H' h => ?_, fun e H' h => ?_⟩
        · walk_at "gs"
          rename_i u H2 h2
          exact fin1 H' e h u H2 h2
        · walk_at "gs"
          rename_i u H2 h2
          exact fin2 H' e h u H2 h2
    | recv =>
      refine ⟨_, (pss_one (L2N.ps_try_as rfl rfl sc__law_called.nd (i := 2) rfl rfl ⟨rfl, by decide, .inl R.g_W⟩ takes0N (fun W pn xe tk pw => (pss_cons (ps_if (PW.pt (pw_and (pt_cmpR op_eq (pe_ix (show IxR _ (rIxT _) from ix_tup) (pv 1) pe_int (fun _ _ => rfl)) pe_str (nomark _)) (pw_and1 (pt_cmpR op_eq (pe_ix (show IxR _ (rIxT _) from ix_tup) (pv 1) pe_int (fun _ _ => rfl)) pe_int (nomark _)))))
        (pss_one (ps_ret (pe_tup (pa_cons pe_str (pa_cons (Wk.pe_mtK ck_send hr (by first | decide | omega) (pv 0) (pk_cons (pe_ix (show IxR _ (rIxT _) from ix_tup) (pv 1) pe_int (fun _ _ => rfl)) pk_nil)) pa_nil)))))
        pss_nil)
      (pss_cons (ps_if (pt_cmpR op_eq (pe_ix (show IxR _ (rIxT _) from ix_tup) (pv 1) pe_int (fun _ _ => rfl)) pe_str (nomark _))
        (pss_one (ps_ret (pe_tup (pa_cons pe_str (pa_cons (C8.pe_mt c_Pipe_send hr (by first | decide | omega) (pv 0) (pa_cons (pe_ix (show IxR _ (rIxT _) from ix_tup) (pv 1) pe_int (fun _ _ => rfl)) pa_nil)) pa_nil)))))
        pss_nil)
      (pss_one (ps_ret (pe_tup (pa_cons pe_str (pa_cons (C8.pe_mt0 c_Pipe_receive hr (by first | decide | omega) (pv 0)) pa_nil)))))))) (fun a oe cls d pn hz hf => pss_one (ps_ret (pe_callE (E := fun _ => C8.E0) (imp_err hz hf) F_err (rH hr) (hot_err hz hf) (List.mem_cons_self ..) rfl F_errM F_errK F_errB (fun _ _ _ _ _ _ _ h => h.elim) (pa_cons (pv 2) pa_nil)))))), ?_⟩
      have mt : tupC t [V.str (Str.ofString "receive")] ∈ R0 := mt
      walk_at "gs"
      refine ⟨o, l, room, out, ws, R0, rfl, hh, fun e H' h => ?_, fun x rest e H' h => ?_⟩
      · subst e
        walk_at "gs"
        rename_i u H2 h2
        exact q u H2 h2
      · subst e
        walk_at "gs"
        rename_i u H2 h2
        exact q u H2 h2
    | bad v k =>
      refine ⟨_, (pss_one (L2N.ps_try_as rfl rfl sc__law_called.nd (i := 2) rfl rfl ⟨rfl, by decide, .inl R.g_W⟩ takes0N (fun W pn xe tk pw => (pss_cons (ps_if (PW.pt (pw_and (pt_cmpR op_eq (pe_ix (show IxR _ (rIxT _) from ix_tup) (pv 1) pe_int (fun _ _ => rfl)) pe_str (nomark _)) (pw_and1 (pt_cmpR op_eq (pe_ix (show IxR _ (rIxT _) from ix_tup) (pv 1) pe_int (fun _ _ => rfl)) pe_int (nomark _)))))
        (pss_one (ps_ret (pe_tup (pa_cons pe_str (pa_cons (Wk.pe_mtKN cx_send hr (by first | decide | omega) tk (pv 0) (pk_cons (pe_ix (show IxR _ (rIxT _) from ix_tup) (pv 1) pe_int (fun _ _ => rfl)) pk_nil)) pa_nil)))))
        pss_nil)
      (pss_cons (ps_if (pt_cmpR op_eq (pe_ix (show IxR _ (rIxT _) from ix_tup) (pv 1) pe_int (fun _ _ => rfl)) pe_str (nomark _))
        (pss_one (ps_ret (pe_tup (pa_cons pe_str (pa_cons (Wk.pe_mtN cx_send hr (by first | decide | omega) tk (pv 0) (pa_cons (pe_ix (show IxR _ (rIxT _) from ix_tup) (pv 1) pe_int (fun _ _ => rfl)) pa_nil)) pa_nil)))))
        pss_nil)
      (pss_one (ps_ret (pe_tup (pa_cons pe_str (pa_cons (C8.pe_mt0 c_Pipe_receive hr (by first | decide | omega) (pv 0)) pa_nil)))))))) (fun a oe cls d pn hz hf => pss_one (ps_ret (pe_callE (E := fun _ => C8.E0) (imp_err hz hf) F_err (rH hr) (hot_err hz hf) (List.mem_cons_self ..) rfl F_errM F_errK F_errB (fun _ _ _ _ _ _ _ h => h.elim) (pa_cons (pv 2) pa_nil)))))), ?_⟩
      have mt : tupC t [V.str (Str.ofString "send"), v, V.int (k : Int)] ∈ R0 := mt
      obtain ⟨hb, hkh, hk⟩ := hc
      walk_at "gs"
      obtain ⟨ty, kh⟩ := hkh H (Hd.sb hh (by walk_at "sbx"))
      have fin : ∀ (d : Addr) (H' : Hp), New H H' d (.xd [("name", .str "word")]) → ∀ t2 H3, Upt [] H' H3 → H' t2 = none → H3 t2 = some (.tup [.str "BadArgument", .str "word"]) → Q (.ref t2) H3 := fun d H' nd t2 H3 u ht e' => q t2 H3 (new_tup' (hh.upt0 nd.keep) u ht e')
      refine w_ite (fun e => ?_) (fun e => ?_)
      · walk_at "gs"
        refine w_methK ?_
        walk_at "gs"
        refine g_methK hh (by walk_at "mem") rfl ?_
        walk_at "gs"
        refine ⟨rfl, o, v, ty, rfl, kh, hb, fun H' d nd => ⟨true, R.exW, fun _ ea hea => ?_, fun z => nomatch z⟩⟩
        walk_at "gs"
        refine w_callS ?_
        walk_at "gs"
        exact ⟨d, "word", rfl, rfl, rfl, nd.at_, fun t2 H3 u ht e' => fin d H' nd t2 H3 u ht e'⟩
      · walk_at "gs"
        refine w_methE ?_
        walk_at "gs"
        refine g_methE hh (by walk_at "mem") rfl ?_
        walk_at "gs"
        refine ⟨o, v, ty, rfl, kh, hb, fun H' d nd => ⟨true, R.exW, fun _ ea hea => ?_, fun z => nomatch z⟩⟩
        walk_at "gs"
        refine w_callS ?_
        walk_at "gs"
        exact ⟨d, "word", rfl, rfl, rfl, nd.at_, fun t2 H3 u ht e' => fin d H' nd t2 H3 u ht e'⟩
end
end
end K45
set_option Elab.async false
set_option linter.all false
set_option maxRecDepth 100000
set_option maxHeartbeats 4000000
namespace K45
open PySem PySem.Spec PyProof.Rows L2 Wk
local macro_rules | `(tactic| walk_at "u1") => `(tactic| fail "no more")
local macro_rules | `(tactic| walk_at "pos") => `(tactic| first | assumption | omega | decide | (simp only [Int.ofNat_eq_natCast] at *; omega))
local macro_rules | `(tactic| walk_at "sz") => `(tactic| first
  | (simp only [List.length_cons, List.length_nil]; decide)
  | exact Evl.sz_of (by omega)
  | exact Evl.sz_lt (by omega)
  | exact Evl.sz_of (by simp only [List.length_map, List.length_append, List.length_cons, List.length_nil, List.length_replicate]; omega)
  | exact Evl.sz_lt (by simp only [List.length_map, List.length_append, List.length_cons, List.length_nil, List.length_replicate]; omega))
local macro_rules | `(tactic| walk_at "cond") => `(tactic| first
  | exact Or.inr ⟨by decide, by decide⟩
  | (show (0 : Int) < _; first | decide | assumption | omega)
  | exact Or.inl ⟨by omega, by omega⟩
  | exact Or.inr ⟨by omega, by omega⟩
  | exact ⟨by decide, by decide, by decide⟩
  | exact log2_lt (by omega) (by omega)
  | exact ⟨by omega, by omega⟩)
local macro_rules | `(tactic| walk_at "ty") => `(tactic| first
  | exact ty_int | exact ty_bl | exact ty_str | exact ty_non
  | exact ty_L (by assumption) | exact ty_T (by assumption)
  | exact ty_L (SqL.of (by assumption)) | exact ty_T (SqT.of (by assumption)))
local macro_rules | `(tactic| walk_at "kit") => `(tactic| first
  | exact k_ii | exact k_ib | exact k_is | exact k_il | exact k_it
  | exact k_bb | exact k_bi | exact k_bs | exact k_bl | exact k_bt
  | exact k_ss | exact k_sb | exact k_si | exact k_sl | exact k_st
  | exact k_ll | exact k_lb | exact k_li | exact k_ls | exact k_lt
  | exact k_tt | exact k_tb | exact k_ti | exact k_ts | exact k_tl
  | exact k_nn | exact k_ni | exact k_ns | exact k_nl | exact k_nt)
local macro_rules | `(tactic| walk_at "s1") => `(tactic| first
  | with_reducible refine w_seq ?_
  | with_reducible refine w_set ?_
  | with_reducible refine w_op ?_
  | ((with_reducible refine' w_var ?h1 ?_); (case h1 => rfl))
  | with_reducible refine w_c ?_
  | with_reducible refine w_cb ?_
  | with_reducible refine w_cons ?_
  | with_reducible refine w_nil ?_
  | with_reducible refine w_I0 ?_
  | ((with_reducible refine' w_I ?c1 ?_); case c1 => walk_at "cond")
  | with_reducible refine w_ret ?_
  | with_reducible refine w_next ?_
  | with_reducible refine w_ifS ?_
  | with_reducible refine w_test ?_
  | with_reducible refine w_tB ?_
  | with_reducible refine w_k ?_
  | with_reducible refine w_eqI ?_
  | with_reducible refine w_neI ?_
  | with_reducible refine w_eqS ?_
  | with_reducible refine w_neS ?_
  | with_reducible refine w_and ?_
  | with_reducible refine w_or ?_
  | with_reducible refine w_not ?_
  | with_reducible refine w_andV ?_
  | with_reducible refine w_orV ?_
  | with_reducible refine w_notV ?_
  | with_reducible refine w_ifE ?_
  | with_reducible refine w_true ?_
  | with_reducible refine w_false ?_
  | with_reducible refine w_ntrue ?_
  | with_reducible refine w_nfalse ?_
  | with_reducible refine w_call ?_
  | with_reducible refine c_int ?_
  | with_reducible refine c_abs ?_
  | with_reducible refine c_max ?_
  | with_reducible refine c_min ?_
  | with_reducible refine w_drop ?_
  | with_reducible refine w_sfld ?_
  | with_reducible refine w_meth ?_
  | with_reducible refine w_make ?_
  | with_reducible refine w_prop ?_
  | with_reducible refine w_callK ?_
  | with_reducible refine w_callN ?_
  | with_reducible refine w_star ?_
  | with_reducible refine w_gcons ?_
  | with_reducible refine w_gname ?_
  | with_reducible refine w_gnil ?_
  | with_reducible refine w_retN ?_
  | with_reducible refine w_tup ?_
  | with_reducible refine w_lst ?_
  | with_reducible refine w_fld ?_
  | with_reducible refine w_bm ?_
  | with_reducible refine w_bm0 ?_
  | with_reducible refine w_forL ?_
  | with_reducible refine w_forT ?_
  | with_reducible refine w_forS ?_
  | with_reducible refine w_forR ?_
  | with_reducible refine w_lcR ?_
  | with_reducible refine w_lcL ?_
  | with_reducible refine w_lcT ?_
  | with_reducible refine w_isN ?_
  | with_reducible refine w_notN ?_
  | with_reducible refine w_asg ?_
  | with_reducible refine w_gsub ?_
  | ((with_reducible refine' w_aug ?h1 ?_); (case h1 => rfl))
  | with_reducible refine w_augS ?_
  | with_reducible refine w_ipI ?_
  | with_reducible refine w_un ?_
  | with_reducible refine w_U ?_
  | ((with_reducible refine' w_iteF ?f1 ?_); case f1 => (first | (intro h; cases h; done) | decide))
  | ((with_reducible refine' w_iteT ?f1 ?_); case f1 => rfl)
  | ((with_reducible refine' w_iteNF ?f1 ?_); case f1 => rfl)
  | ((with_reducible refine' w_iteNT ?f1 ?_); case f1 => (first | (intro h; cases h; done) | decide))
  | ((with_reducible refine' c_isi ?t1 ?k1 ?_); (case t1 => walk_at "ty"); (case k1 => walk_at "kit"))
  | ((with_reducible refine' w_eq ?e1 ?_); case e1 => rfl)
  | ((with_reducible refine' w_ne ?e1 ?_); case e1 => rfl)
  | walk_at "u1")
local macro_rules | `(tactic| walk_at "s") => `(tactic| repeat walk_at "s1")
local macro_rules | `(tactic| walk_at "mem") => `(tactic| first | with_reducible exact List.mem_cons_self .. | ((with_reducible refine' List.mem_cons_of_mem _ ?q); (case q => walk_at "mem")) | assumption | ((with_reducible refine' List.mem_append_right _ ?q); (case q => walk_at "mem")) | (exact List.mem_append_left _ (by assumption)))
local macro_rules | `(tactic| walk_at "pk") => `(tactic| first | with_reducible exact Pk.here | ((with_reducible refine' Pk.there ?q); (case q => walk_at "pk")) | ((with_reducible refine' Pk.app ?q); (case q => walk_at "pk")))
local macro_rules | `(tactic| walk_at "pkb") => `(tactic| first | with_reducible exact PkB.here | ((with_reducible refine' PkB.there ?q); (case q => walk_at "pkb")) | ((with_reducible refine' PkB.app ?q); (case q => walk_at "pkb")))
local macro_rules | `(tactic| walk_at "spl") => `(tactic| first | with_reducible exact Spl.nil | ((with_reducible refine' Spl.cons ?h ?t); (case h => walk_at "pk"); (case t => walk_at "spl")) | ((with_reducible refine' Spl.blk ?h ?t); (case h => walk_at "pkb"); (case t => walk_at "spl")))
local macro_rules | `(tactic| walk_at "sbx") => `(tactic| first | with_reducible exact Sb.refl | with_reducible exact Sb.nil | with_reducible exact Sb.left | ((with_reducible refine' Sb.cons ?h ?t); (case h => walk_at "pk"); (case t => walk_at "sbx")) | ((with_reducible refine' Sb.blk ?h ?t); (case h => walk_at "pkb"); (case t => walk_at "sbx")) | ((with_reducible refine' Sb.drop ?q); (case q => walk_at "sbx")) | ((with_reducible refine' Sb.right ?q); (case q => walk_at "sbx")))
local macro_rules | `(tactic| walk_at "hd") => `(tactic| first | assumption | exact Hd.sb (by assumption) (by walk_at "sbx"))
local macro_rules | `(tactic| walk_at "sq") => `(tactic| first
  | assumption
  | exact Hd.sqL (by assumption) (by walk_at "mem")
  | exact Hd.sqT (by assumption) (by walk_at "mem")
  | exact Hd.sqF (by assumption) (by walk_at "mem")
  | (refine .inl ?_; walk_at "sq")
  | (refine .inr ?_; walk_at "sq"))
local macro_rules | `(tactic| walk_at "at") => `(tactic| first | rfl | assumption | exact atI_nat (by assumption))
local macro_rules | `(tactic| walk_at "dn1") => `(tactic| first
  | exact Dn.int | exact Dn.str | exact Dn.non | exact Dn.bl | assumption
  | ((refine' Dn.tp ?a1 ?m1 ?l1 ?p1); (case a1 => assumption); (case m1 => walk_at "mem"); (case l1 => (simp only [List.length_cons, List.length_nil]; omega)); (case p1 => walk_at "dns"))
  | ((refine' Dn.lt ?a1 ?m1 ?l1 ?p1); (case a1 => assumption); (case m1 => walk_at "mem"); (case l1 => (simp only [List.length_cons, List.length_nil]; omega)); (case p1 => walk_at "dns")))
local macro_rules | `(tactic| walk_at "dns") => `(tactic| first | exact Paired.nil | exact Dn.ints | ((refine' Paired.cons ?a1 ?b1); (case a1 => walk_at "dn1"); (case b1 => walk_at "dns")))
local macro_rules | `(tactic| walk_at "g1") => `(tactic| first
  | ((with_reducible refine' g_ixI ?h1 ?h2 ?h3 ?_); (case h1 => assumption); (case h2 => walk_at "mem"); (case h3 => omega); intro z hz)
  | ((with_reducible refine' g_ixIT ?h1 ?h2 ?h3 ?_); (case h1 => assumption); (case h2 => walk_at "mem"); (case h3 => omega); intro z hz)
  | ((with_reducible refine' g_setI ?h1 ?h2 ?h3 ?_); (case h1 => assumption); (case h2 => walk_at "pk"); (case h3 => omega); intro H2 hh2)
  | ((with_reducible refine' w_ixL ?h1 ?h2 ?_); (case h1 => walk_at "sq"); (case h2 => walk_at "at"))
  | ((with_reducible refine' w_ixT ?h1 ?h2 ?_); (case h1 => walk_at "sq"); (case h2 => walk_at "at"))
  | ((with_reducible refine' w_ixAny ?h1 ?h2 ?_); (case h1 => walk_at "sq"); (case h2 => walk_at "at"))
  | ((with_reducible refine' c_lenA ?h1 ?_); (case h1 => walk_at "sq"))
  | ((with_reducible refine' c_isi ?t1 ?k1 ?_); (case t1 => first | exact ty_T (by walk_at "sq") | exact ty_L (by walk_at "sq")); (case k1 => walk_at "kit"))
  | ((with_reducible refine' g_lst ?h1 ?h2 ?_); (case h1 => assumption); (case h2 => walk_at "sz"); intro p H2 hh2)
  | ((with_reducible refine' g_tup ?h1 ?h2 ?_); (case h1 => assumption); (case h2 => walk_at "sz"); intro p H2 hh2)
  | ((with_reducible refine' g_dict ?h1 ?_); (case h1 => assumption); intro p H2 hh2)
  | ((with_reducible refine' g_listL ?h1 ?h2 ?_); (case h1 => assumption); (case h2 => walk_at "sq"); intro p H2 hh2)
  | ((with_reducible refine' g_listT ?h1 ?h2 ?_); (case h1 => assumption); (case h2 => walk_at "sq"); intro p H2 hh2)
  | ((with_reducible refine' g_tupL ?h1 ?h2 ?_); (case h1 => assumption); (case h2 => walk_at "sq"); intro p H2 hh2)
  | ((with_reducible refine' g_set ?h1 ?h2 ?h3 ?_); (case h1 => assumption); (case h2 => walk_at "pk"); (case h3 => first | rfl | assumption | exact Evl.ixN_nat (by first | omega | (simp only [List.length_cons, List.length_nil]; omega))); intro H2 hh2)
  | ((with_reducible refine' g_kbm ?h1 ?h2 ?_); (case h1 => assumption); (case h2 => walk_at "mem"))
  | ((with_reducible refine' g_kbm0 ?h1 ?h2 ?_); (case h1 => assumption); (case h2 => walk_at "mem"))
  | ((with_reducible refine' g_app ?h1 ?h2 ?h3 ?_); (case h1 => assumption); (case h2 => walk_at "pk"); (case h3 => walk_at "sz"); intro H2 hh2)
  | ((with_reducible refine' g_kapp ?h1 ?h2 ?h3 ?_); (case h1 => assumption); (case h2 => walk_at "pk"); (case h3 => walk_at "sz"); intro H2 hh2)
  | ((with_reducible refine' g_fld ?h1 ?h2 ?h3 ?h4 ?h5 ?_); (case h1 => assumption); (case h2 => walk_at "mem"); (case h3 => assumption); (case h4 => assumption); (case h5 => rfl))
  | ((with_reducible refine' g_sfld ?h1 ?h2 ?h3 ?h4 ?h5 ?_); (case h1 => assumption); (case h2 => walk_at "pk"); (case h3 => assumption); (case h4 => assumption); (case h5 => decide); intro H2 hh2)
  | ((with_reducible refine' g_meth ?h1 ?h2 ?h3 ?_); (case h1 => assumption); (case h2 => walk_at "mem"); (case h3 => rfl))
  | ((with_reducible refine' g_prop ?h1 ?h2 ?_); (case h1 => assumption); (case h2 => walk_at "mem"))
  | ((with_reducible refine' g_make ?h1 ?_); (case h1 => assumption); intro x H2 hh2)
  | ((with_reducible refine' g_cat ?h1 ?h2 ?h3 ?h4 ?_); (case h1 => assumption); (case h2 => walk_at "mem"); (case h3 => walk_at "mem"); (case h4 => walk_at "sz"); intro p H2 hh2)
  | ((with_reducible refine' g_inT ?h1 ?h2 ?h3 ?h4 ?h5 ?_); (case h1 => assumption); (case h2 => walk_at "mem"); (case h3 => rfl); (case h4 => rfl); (case h5 => rfl)))
local macro_rules | `(tactic| walk_at "gs") => `(tactic| repeat first | walk_at "s1" | walk_at "g1")
local macro_rules | `(tactic| walk_at "ite") => `(tactic| first
  | ((with_reducible refine' w_iteT ?h1 ?_); (case h1 => omega))
  | ((with_reducible refine' w_iteF ?h1 ?_); (case h1 => omega))
  | (with_reducible refine w_ite ?_ ?_ <;> intro hq)
  | ((with_reducible refine' w_iteNT ?h1 ?_); (case h1 => omega))
  | ((with_reducible refine' w_iteNF ?h1 ?_); (case h1 => omega))
  | (with_reducible refine w_iteN ?_ ?_ <;> intro hq))
local macro_rules | `(tactic| walk_at "go") => `(tactic| repeat' first | walk_at "s1" | walk_at "g1" | walk_at "ite")
local macro_rules | `(tactic| walk_at "g1") => `(tactic| first
  | ((with_reducible refine' g_take1 ?h1 ?h2 ?h3 ?h4 ?_); (case h1 => assumption); (case h2 => walk_at "spl"); (case h3 => omega); (case h4 => omega); intro k H2 hk1 hh2)
  | ((with_reducible refine' g_take ?h1 ?h2 ?h4 ?_); (case h1 => assumption); (case h2 => walk_at "spl"); (case h4 => omega); intro k H2 hk1 hh2)
  | ((with_reducible refine' g_betweenN ?h1 ?h2 ?h5 ?h3 ?h4 ?_); (case h1 => assumption); (case h2 => walk_at "spl"); (case h5 => omega); (case h3 => omega); (case h4 => omega); intro k H2 hk1 hk2 hh2)
  | ((with_reducible refine' g_between ?h1 ?h2 ?h3 ?h4 ?_); (case h1 => assumption); (case h2 => walk_at "spl"); (case h3 => omega); (case h4 => omega); intro k H2 hk1 hk2 hh2)
  | ((with_reducible refine' g_size ?h1 ?h2 ?h3 ?h4 ?_); (case h1 => assumption); (case h2 => walk_at "spl"); (case h3 => omega); (case h4 => omega); intro k H2 hk1 hh2)
  | ((with_reducible refine' g_word ?h1 ?h2 ?_); (case h1 => assumption); (case h2 => walk_at "spl"); intro k H2 hk1 hh2))
local macro_rules | `(tactic| walk_at "g1") => `(tactic| first | with_reducible refine w_sl ?_ | with_reducible refine w_part ?_ | with_reducible refine w_noPart ?_ | with_reducible refine w_exI ?_)
section
variable {P : Program} {w : World} {K : PySem.W.Frag} {mg : Str → Option Value} {base : Heap} {aREG aOPS : Addr}
/-! ### a loop over a pipe, its list -/
def KForO (K : PySem.W.Frag) (C : Addr) (G : Addr → Addr → Hp → Prop) (g : TG) (tb : TS) (D : Ends) (σ : L2.St) (x : V) (H : Hp) : Prop := ∃ a l dx fs, x = .ref a ∧ H a = some (.ins C dx fs) ∧ G a l H ∧ KFor (Itl K l) g tb D σ H
theorem w_forO {K : PySem.W.Frag} {C : Addr} {G : Addr → Addr → Hp → Prop} {te : TE} {g : TG} {tb : TS} {D : Ends} {σ : L2.St} {H : Hp} (h : te σ H fun x H1 => KForO K C G g tb D σ x H1) : tFor (iOwn K C G te) g tb D σ H := h
section
variable {K : PySem.W.Frag} {C o l sl : Addr} {room out n : Nat} {ws sent : List Int} {R : List Cell} {H : Hp} {Q : VK} {tb : TS} {D : Ends} {σ : L2.St}
theorem pi_g (hh : Hd H R) (m1 : pipI C o room l out ∈ R) (m2 : lstC l (ws.map V.int) ∈ R) : PiG C o l H := let ⟨dx, e⟩ := hh.ins m1; ⟨dx, room, out, e, _, hh.lst m2⟩
theorem l_own (hh : Hd H R) (m1 : pipI C o room l out ∈ R) (m2 : lstC l (ws.map V.int) ∈ R) (Pv : Nat → L2.St → Hp → Prop) (h0 : Pv 0 σ H) (hl : ∀ i σ H, i ≤ ws.length → Pv i σ H → SqL K H l (ws.map V.int))
    (hs : ∀ i x σ H, ws[i]? = some x → Pv i σ H → tb { D with nx := Pv (i + 1), ct := Pv (i + 1), bk := D.nx } (σ.set n (some (.int x))) H) (hd : ∀ σ H, Pv ws.length σ H → D.nx σ H) : KForO K C (PiG C) (gName n) tb D σ (.ref o) H := by
  obtain ⟨dx, e⟩ := hh.ins m1
  refine ⟨o, l, dx, _, rfl, e, pi_g hh m1 m2, for_list (K := K) (a := l) (xs := ws.map V.int) Pv h0 (fun i σ H hi p => hl i σ H (by simpa using hi) p) (fun i y σ H hy p => ?_) (fun σ H p => hd σ H (by simpa using p))⟩
  obtain ⟨x, hx, rfl⟩ : ∃ x, ws[i]? = some x ∧ V.int x = y := by simpa [List.getElem?_map] using hy
  exact hs i x σ H hx p
theorem g_listP (hh : Hd H R) (m1 : pipI C o room l out ∈ R) (m2 : lstC l (ws.map V.int) ∈ R) (hl : ws.length ≤ 100) (q : ∀ t H', Hd H' (lstC t (ws.map V.int) :: R) → Q (.ref t) H') : rLstOwn K C (PiG C) [.ref o] H Q := by
  obtain ⟨dx, e⟩ := hh.ins m1
  exact ⟨o, l, dx, _, _, rfl, e, pi_g hh m1 m2, fun q hq => (pi_g hh m1 m2).upd hq, hh.sqL m2, by rw [List.length_map, sizeLine_eq]; omega, fun t ht => q t _ (hh.newL (New.of (o := .lst (ws.map V.int)) ht))⟩
theorem dn_ints (hh : Hd H R) (m : lstC l (ws.map V.int) ∈ R) (hl : ws.length ≤ 1000) : Dn K [] H 2 (.ref l) (.list (ws.map PyData.int)) := Dn.lt (n := 1) hh m (by rw [List.length_map]; omega) Dn.ints
theorem alikeL_ints : ∀ xs : List Int, alikeL (xs.map PyData.int) (xs.map PyData.int) = true
  | [] => rfl
  | x :: xs => by
    show (decide (x = x) && alikeL (xs.map PyData.int) (xs.map PyData.int)) = true
    rw [alikeL_ints xs, decide_eq_true rfl]; rfl
end
section
variable {C : Addr}
/-- the pipe shows what it holds -/
def sp_shown (C : Addr) : Sp := fun vs H Q _ => ∃ (o l sl : Addr) (room out : Nat) (sent : List Int) (R : List Cell), vs = [.ref o, .int room, .ref sl, .int out] ∧ Hd H R ∧ pipI C o room l out ∈ R ∧ lstC l ((sent.drop out).map V.int) ∈ R ∧ lstC sl (sent.map V.int) ∈ R ∧ out ≤ sent.length ∧ sent.length ≤ 100 ∧ ∀ H', Hd H' R → Q (.bl true) H'
theorem c_shown (T : Txt K mg aREG aOPS) (d : DefAt K mg "_law_shown" s__law_shown) (p_room : Prp P w K mg base 1 C "room" (sp_prop C fun room _ _ => room)) (p_size : Prp P w K mg base 1 C "size" (sp_prop C fun _ ws _ => ws.length)) (p_sent : Prp P w K mg base 1 C "sent" (sp_prop C fun _ ws out => (out : Int) + (ws.length : Int))) (p_received : Prp P w K mg base 1 C "received" (sp_prop C fun _ _ out => out))
    (ci : ItrK P w K mg base 1 C (PiG C)) (c__law_alike : C8.Cal P w K mg base 3 "_law_alike" (sp_alikeB K 3) []) : C8.Cal P w K mg base 4 "_law_shown" (sp_shown C) [] := by
  refine mk d sc__law_shown (fun _ _ _ _ _ _ us hl => match us, hl with | [_, _, _, _], _ => rfl) (fun vs H Q E h => ?_) (fun f cdv A outer s H vs Q E hr h => ?_)
  · obtain ⟨o, l, sl, room, out, sent, R, rfl, _⟩ := h
    rfl
  · obtain ⟨o, l, sl, room, out, sent, R, rfl, hh, m1, m2, m3, ho, hl, q⟩ := h
    refine ⟨_, (pss_cons (ps_if (pt_not (pt_val (C8.pe_c c__law_alike hr (by first | decide | omega) rfl (pa_cons (pe_lst (pa_cons (pv 1) (pa_cons (pe_op op_sub (pe_callB Wk.b_len (by rfl) T.b_len (by decide +kernel) (pa_cons (pv 2) pa_nil)) (pv 3)) (pa_cons (pe_callB Wk.b_len (by rfl) T.b_len (by decide +kernel) (pa_cons (pv 2) pa_nil)) (pa_cons (pv 3) pa_nil))))) (pa_cons (pe_lst (pa_cons (Wk.pe_pr p_room hr (by first | decide | omega) (pv 0)) (pa_cons (Wk.pe_pr p_size hr (by first | decide | omega) (pv 0)) (pa_cons (Wk.pe_pr p_sent hr (by first | decide | omega) (pv 0)) (pa_cons (Wk.pe_pr p_received hr (by first | decide | omega) (pv 0)) pa_nil))))) pa_nil)))))
    (pss_one (ps_ret pe_bl))
    pss_nil)
  (pss_cons (ps_for PassesOwn.never rfl (pi_range1 rfl T.b_range (pa_cons pe_int pa_nil)) (pg_name (i := 4) sc__law_shown.nd rfl (Or.inl rfl))
    (pss_cons (ps_if (pt_not (pt_val (C8.pe_c c__law_alike hr (by first | decide | omega) rfl (pa_cons (pe_slice sl_list (pv 2) (po_some (pv 3)) po_none) (pa_cons (pe_callTy (call_listO ci rfl (hr.mono (by first | decide | omega))) (by rfl) T.b_list (by decide +kernel) (pa_cons (pv 0) pa_nil)) pa_nil)))))
        (pss_one (ps_ret pe_bl))
        pss_nil)
      (pss_cons (ps_set (i := 5) sc__law_shown.nd rfl (Or.inl rfl) (pv 3))
      (pss_cons (ps_for PassesOwn.never rfl (pi_own ci hr (by first | decide | omega) (pv 0)) (pg_name (i := 6) sc__law_shown.nd rfl (Or.inl rfl))
        (pss_cons (ps_if (PW.pt (pw_or (pt_cmpR op_ge (pv 5) (pe_callB Wk.b_len (by rfl) T.b_len (by decide +kernel) (pa_cons (pv 2) pa_nil)) (nomark _)) (pw_or1 (pt_not (pt_val (C8.pe_c c__law_alike hr (by first | decide | omega) rfl (pa_cons (pe_ix ix_list (pv 2) (pv 5) (fun _ _ => rfl)) (pa_cons (pv 6) pa_nil))))))))
            (pss_one (ps_ret pe_bl))
            pss_nil)
          (pss_one (ps_aug (i := 5) sc__law_shown.nd rfl (Or.inl rfl) pe_int ip_add))))
      (pss_one (ps_if (pt_cmpR op_ne (pv 5) (pe_callB Wk.b_len (by rfl) T.b_len (by decide +kernel) (pa_cons (pv 2) pa_nil)) (nomark _))
        (pss_one (ps_ret pe_bl))
        pss_nil))))))
  (pss_one (ps_ret pe_bl)))), ?_⟩
    have hls : (sent.map V.int).length = sent.length := List.length_map ..
    have hld : (sent.drop out).length = sent.length - out := List.length_drop ..
    walk_at "gs"
    rename_i p1 H1 h1
    have m1' := List.mem_cons_of_mem (lstC p1 [V.int ↑room, V.int (↑(List.map V.int sent).length - ↑out), V.int ↑(List.map V.int sent).length, V.int ↑out]) m1
    have m2' := List.mem_cons_of_mem (lstC p1 [V.int ↑room, V.int (↑(List.map V.int sent).length - ↑out), V.int ↑(List.map V.int sent).length, V.int ↑out]) m2
    refine Wk.g_prop h1 m1' (g_prop h1 m1' m2' ?_)
    walk_at "gs"
    refine Wk.g_prop h1 m1' (g_prop h1 m1' m2' ?_)
    walk_at "gs"
    refine Wk.g_prop h1 m1' (g_prop h1 m1' m2' ?_)
    walk_at "gs"
    refine Wk.g_prop h1 m1' (g_prop h1 m1' m2' ?_)
    walk_at "gs"
    rename_i p2 H2 h2
    refine g_alikeB (d1 := .list ([(room : Int), (sent.length : Int) - out, sent.length, out].map PyData.int)) (d2 := .list ([(room : Int), (sent.length : Int) - out, sent.length, out].map PyData.int)) ?_ ?_ ?_
    · refine Dn.lt (n := 1) h2 (.tail _ (.head _)) (by simp) ?_
      rw [hls]
      exact Dn.ints (ns := [(room : Int), (sent.length : Int) - out, sent.length, out])
    · refine Dn.lt (n := 1) h2 (.head _) (by simp) ?_
      rw [hld, show ((sent.length - out : Nat) : Int) = (sent.length : Int) - out by omega, show (out : Int) + ((sent.length : Int) - out) = sent.length by omega]
      exact Dn.ints (ns := [(room : Int), (sent.length : Int) - out, sent.length, out])
    rw [show alikeD (.list ([(room : Int), (sent.length : Int) - out, sent.length, out].map PyData.int)) (.list ([(room : Int), (sent.length : Int) - out, sent.length, out].map PyData.int)) = true from alikeL_ints _]
    have h2 : Hd H2 R := Hd.sb h2 (by walk_at "sbx")
    clear h1 m1' m2' hh
    walk_at "gs"
    refine l_range (m := 2) (by rfl) (by decide) (fun i σ H => (∃ x4 x5 x6, σ = [some (.ref o), some (.int room), some (.ref sl), some (.int out), x4, x5, x6]) ∧ Hd H R) ⟨⟨_, _, _, rfl⟩, h2⟩ (fun i σ H hi hP => ?_) (fun σ H hP => ?_)
    · obtain ⟨⟨x4, x5, x6, rfl⟩, h3⟩ := hP
      dsimp only [List.set]
      clear h2
      walk_at "gs"
      refine g_slLo h3 (h3.sqL m3) fun t1 H4 h4 => ?_
      have h4 : Hd H4 (lstC t1 ((sent.drop out).map V.int) :: R) := by rw [List.map_drop]; exact h4
      walk_at "gs"
      refine g_listP h4 (.tail _ m1) (.tail _ m2) (by omega) fun t2 H5 h5 => ?_
      walk_at "gs"
      refine g_alikeB (dn_ints h5 (.tail _ (.head _)) (by omega)) (dn_ints h5 (.head _) (by omega)) ?_
      rw [show alikeD (.list ((sent.drop out).map PyData.int)) (.list ((sent.drop out).map PyData.int)) = true from alikeL_ints _]
      have h5 : Hd H5 R := Hd.sb h5 (by walk_at "sbx")
      clear h3 h4
      walk_at "gs"
      refine w_forO ?_
      walk_at "gs"
      refine l_own h5 m1 m2 (fun j σ H => (∃ x6, σ = [some (.ref o), some (.int room), some (.ref sl), some (.int out), some (.int i), some (.int ((out + j : Nat) : Int)), x6]) ∧ Hd H R) ⟨⟨_, rfl⟩, h5⟩ (fun j σ H hj hP => ?_) (fun j x σ H hx hP => ?_) (fun σ H hP => ?_)
      · exact hP.2.sqL m2
      · obtain ⟨⟨x6, rfl⟩, h6⟩ := hP
        have hjl := (List.getElem?_eq_some_iff.mp hx).1
        have hsx : sent[out + j]? = some x := by rw [← List.getElem?_drop]; exact hx
        clear h5
        dsimp only [List.set]
        walk_at "gs"
        rw [decide_eq_false (show ¬ ((List.map V.int sent).length : Int) ≤ ((out + j : Nat) : Int) by rw [hls]; omega)]
        walk_at "gs"
        rename_i z hz
        obtain rfl : x = z := Option.some.inj (hsx.symm.trans hz)
        refine g_alikeB (d1 := .int x) (d2 := .int x) Dn.int Dn.int ?_
        rw [show alikeD (.int x) (.int x) = true from decide_eq_true rfl]
        walk_at "gs"
        exact ⟨⟨_, rfl⟩, h6⟩
      · obtain ⟨⟨x6, rfl⟩, h6⟩ := hP
        clear h5
        rw [hld, show out + (sent.length - out) = sent.length by omega]
        walk_at "gs"
        rw [decide_eq_true (show ((sent.length : Nat) : Int) = ((List.map V.int sent).length : Int) by rw [hls])]
        walk_at "gs"
        exact ⟨⟨_, _, _, rfl⟩, h6⟩
    · obtain ⟨⟨x4, x5, x6, rfl⟩, h3⟩ := hP
      walk_at "gs"
      exact q H h3
end
end
end K45
set_option Elab.async false
set_option linter.all false
set_option maxRecDepth 100000
set_option maxHeartbeats 4000000
namespace K45
open PySem PySem.Spec PyProof.Rows L2 Wk
local macro_rules | `(tactic| walk_at "u1") => `(tactic| fail "no more")
local macro_rules | `(tactic| walk_at "pos") => `(tactic| first | assumption | omega | decide | (simp only [Int.ofNat_eq_natCast] at *; omega))
local macro_rules | `(tactic| walk_at "sz") => `(tactic| first
  | (simp only [List.length_cons, List.length_nil]; decide)
  | exact Evl.sz_of (by omega)
  | exact Evl.sz_lt (by omega)
  | exact Evl.sz_of (by simp only [List.length_map, List.length_append, List.length_cons, List.length_nil, List.length_replicate]; omega)
  | exact Evl.sz_lt (by simp only [List.length_map, List.length_append, List.length_cons, List.length_nil, List.length_replicate]; omega))
local macro_rules | `(tactic| walk_at "cond") => `(tactic| first
  | exact Or.inr ⟨by decide, by decide⟩
  | (show (0 : Int) < _; first | decide | assumption | omega)
  | exact Or.inl ⟨by omega, by omega⟩
  | exact Or.inr ⟨by omega, by omega⟩
  | exact ⟨by decide, by decide, by decide⟩
  | exact log2_lt (by omega) (by omega)
  | exact ⟨by omega, by omega⟩)
local macro_rules | `(tactic| walk_at "ty") => `(tactic| first
  | exact ty_int | exact ty_bl | exact ty_str | exact ty_non
  | exact ty_L (by assumption) | exact ty_T (by assumption)
  | exact ty_L (SqL.of (by assumption)) | exact ty_T (SqT.of (by assumption)))
local macro_rules | `(tactic| walk_at "kit") => `(tactic| first
  | exact k_ii | exact k_ib | exact k_is | exact k_il | exact k_it
  | exact k_bb | exact k_bi | exact k_bs | exact k_bl | exact k_bt
  | exact k_ss | exact k_sb | exact k_si | exact k_sl | exact k_st
  | exact k_ll | exact k_lb | exact k_li | exact k_ls | exact k_lt
  | exact k_tt | exact k_tb | exact k_ti | exact k_ts | exact k_tl
  | exact k_nn | exact k_ni | exact k_ns | exact k_nl | exact k_nt)
local macro_rules | `(tactic| walk_at "s1") => `(tactic| first
  | with_reducible refine w_seq ?_
  | with_reducible refine w_set ?_
  | with_reducible refine w_op ?_
  | ((with_reducible refine' w_var ?h1 ?_); (case h1 => rfl))
  | with_reducible refine w_c ?_
  | with_reducible refine w_cb ?_
  | with_reducible refine w_cons ?_
  | with_reducible refine w_nil ?_
  | with_reducible refine w_I0 ?_
  | ((with_reducible refine' w_I ?c1 ?_); case c1 => walk_at "cond")
  | with_reducible refine w_ret ?_
  | with_reducible refine w_next ?_
  | with_reducible refine w_ifS ?_
  | with_reducible refine w_test ?_
  | with_reducible refine w_tB ?_
  | with_reducible refine w_k ?_
  | with_reducible refine w_eqI ?_
  | with_reducible refine w_neI ?_
  | with_reducible refine w_eqS ?_
  | with_reducible refine w_neS ?_
  | with_reducible refine w_and ?_
  | with_reducible refine w_or ?_
  | with_reducible refine w_not ?_
  | with_reducible refine w_andV ?_
  | with_reducible refine w_orV ?_
  | with_reducible refine w_notV ?_
  | with_reducible refine w_ifE ?_
  | with_reducible refine w_true ?_
  | with_reducible refine w_false ?_
  | with_reducible refine w_ntrue ?_
  | with_reducible refine w_nfalse ?_
  | with_reducible refine w_call ?_
  | with_reducible refine c_int ?_
  | with_reducible refine c_abs ?_
  | with_reducible refine c_max ?_
  | with_reducible refine c_min ?_
  | with_reducible refine w_drop ?_
  | with_reducible refine w_sfld ?_
  | with_reducible refine w_meth ?_
  | with_reducible refine w_make ?_
  | with_reducible refine w_prop ?_
  | with_reducible refine w_callK ?_
  | with_reducible refine w_callN ?_
  | with_reducible refine w_star ?_
  | with_reducible refine w_gcons ?_
  | with_reducible refine w_gname ?_
  | with_reducible refine w_gnil ?_
  | with_reducible refine w_retN ?_
  | with_reducible refine w_tup ?_
  | with_reducible refine w_lst ?_
  | with_reducible refine w_fld ?_
  | with_reducible refine w_bm ?_
  | with_reducible refine w_bm0 ?_
  | with_reducible refine w_forL ?_
  | with_reducible refine w_forT ?_
  | with_reducible refine w_forS ?_
  | with_reducible refine w_forR ?_
  | with_reducible refine w_lcR ?_
  | with_reducible refine w_lcL ?_
  | with_reducible refine w_lcT ?_
  | with_reducible refine w_isN ?_
  | with_reducible refine w_notN ?_
  | with_reducible refine w_asg ?_
  | with_reducible refine w_gsub ?_
  | ((with_reducible refine' w_aug ?h1 ?_); (case h1 => rfl))
  | with_reducible refine w_augS ?_
  | with_reducible refine w_ipI ?_
  | with_reducible refine w_un ?_
  | with_reducible refine w_U ?_
  | ((with_reducible refine' w_iteF ?f1 ?_); case f1 => (first | (intro h; cases h; done) | decide))
  | ((with_reducible refine' w_iteT ?f1 ?_); case f1 => rfl)
  | ((with_reducible refine' w_iteNF ?f1 ?_); case f1 => rfl)
  | ((with_reducible refine' w_iteNT ?f1 ?_); case f1 => (first | (intro h; cases h; done) | decide))
  | ((with_reducible refine' c_isi ?t1 ?k1 ?_); (case t1 => walk_at "ty"); (case k1 => walk_at "kit"))
  | ((with_reducible refine' w_eq ?e1 ?_); case e1 => rfl)
  | ((with_reducible refine' w_ne ?e1 ?_); case e1 => rfl)
  | walk_at "u1")
local macro_rules | `(tactic| walk_at "s") => `(tactic| repeat walk_at "s1")
local macro_rules | `(tactic| walk_at "mem") => `(tactic| first | with_reducible exact List.mem_cons_self .. | ((with_reducible refine' List.mem_cons_of_mem _ ?q); (case q => walk_at "mem")) | assumption | ((with_reducible refine' List.mem_append_right _ ?q); (case q => walk_at "mem")) | (exact List.mem_append_left _ (by assumption)))
local macro_rules | `(tactic| walk_at "pk") => `(tactic| first | with_reducible exact Pk.here | ((with_reducible refine' Pk.there ?q); (case q => walk_at "pk")) | ((with_reducible refine' Pk.app ?q); (case q => walk_at "pk")))
local macro_rules | `(tactic| walk_at "pkb") => `(tactic| first | with_reducible exact PkB.here | ((with_reducible refine' PkB.there ?q); (case q => walk_at "pkb")) | ((with_reducible refine' PkB.app ?q); (case q => walk_at "pkb")))
local macro_rules | `(tactic| walk_at "spl") => `(tactic| first | with_reducible exact Spl.nil | ((with_reducible refine' Spl.cons ?h ?t); (case h => walk_at "pk"); (case t => walk_at "spl")) | ((with_reducible refine' Spl.blk ?h ?t); (case h => walk_at "pkb"); (case t => walk_at "spl")))
local macro_rules | `(tactic| walk_at "sbx") => `(tactic| first | with_reducible exact Sb.refl | with_reducible exact Sb.nil | with_reducible exact Sb.left | ((with_reducible refine' Sb.cons ?h ?t); (case h => walk_at "pk"); (case t => walk_at "sbx")) | ((with_reducible refine' Sb.blk ?h ?t); (case h => walk_at "pkb"); (case t => walk_at "sbx")) | ((with_reducible refine' Sb.drop ?q); (case q => walk_at "sbx")) | ((with_reducible refine' Sb.right ?q); (case q => walk_at "sbx")))
local macro_rules | `(tactic| walk_at "hd") => `(tactic| first | assumption | exact Hd.sb (by assumption) (by walk_at "sbx"))
local macro_rules | `(tactic| walk_at "sq") => `(tactic| first
  | assumption
  | exact Hd.sqL (by assumption) (by walk_at "mem")
  | exact Hd.sqT (by assumption) (by walk_at "mem")
  | exact Hd.sqF (by assumption) (by walk_at "mem")
  | (refine .inl ?_; walk_at "sq")
  | (refine .inr ?_; walk_at "sq"))
local macro_rules | `(tactic| walk_at "at") => `(tactic| first | rfl | assumption | exact atI_nat (by assumption))
local macro_rules | `(tactic| walk_at "dn1") => `(tactic| first
  | exact Dn.int | exact Dn.str | exact Dn.non | exact Dn.bl | assumption
  | ((refine' Dn.tp ?a1 ?m1 ?l1 ?p1); (case a1 => assumption); (case m1 => walk_at "mem"); (case l1 => (simp only [List.length_cons, List.length_nil]; omega)); (case p1 => walk_at "dns"))
  | ((refine' Dn.lt ?a1 ?m1 ?l1 ?p1); (case a1 => assumption); (case m1 => walk_at "mem"); (case l1 => (simp only [List.length_cons, List.length_nil]; omega)); (case p1 => walk_at "dns")))
local macro_rules | `(tactic| walk_at "dns") => `(tactic| first | exact Paired.nil | exact Dn.ints | ((refine' Paired.cons ?a1 ?b1); (case a1 => walk_at "dn1"); (case b1 => walk_at "dns")))
local macro_rules | `(tactic| walk_at "g1") => `(tactic| first
  | ((with_reducible refine' g_ixI ?h1 ?h2 ?h3 ?_); (case h1 => assumption); (case h2 => walk_at "mem"); (case h3 => omega); intro z hz)
  | ((with_reducible refine' g_ixIT ?h1 ?h2 ?h3 ?_); (case h1 => assumption); (case h2 => walk_at "mem"); (case h3 => omega); intro z hz)
  | ((with_reducible refine' g_setI ?h1 ?h2 ?h3 ?_); (case h1 => assumption); (case h2 => walk_at "pk"); (case h3 => omega); intro H2 hh2)
  | ((with_reducible refine' w_ixL ?h1 ?h2 ?_); (case h1 => walk_at "sq"); (case h2 => walk_at "at"))
  | ((with_reducible refine' w_ixT ?h1 ?h2 ?_); (case h1 => walk_at "sq"); (case h2 => walk_at "at"))
  | ((with_reducible refine' w_ixAny ?h1 ?h2 ?_); (case h1 => walk_at "sq"); (case h2 => walk_at "at"))
  | ((with_reducible refine' c_lenA ?h1 ?_); (case h1 => walk_at "sq"))
  | ((with_reducible refine' c_isi ?t1 ?k1 ?_); (case t1 => first | exact ty_T (by walk_at "sq") | exact ty_L (by walk_at "sq")); (case k1 => walk_at "kit"))
  | ((with_reducible refine' g_lst ?h1 ?h2 ?_); (case h1 => assumption); (case h2 => walk_at "sz"); intro p H2 hh2)
  | ((with_reducible refine' g_tup ?h1 ?h2 ?_); (case h1 => assumption); (case h2 => walk_at "sz"); intro p H2 hh2)
  | ((with_reducible refine' g_dict ?h1 ?_); (case h1 => assumption); intro p H2 hh2)
  | ((with_reducible refine' g_listL ?h1 ?h2 ?_); (case h1 => assumption); (case h2 => walk_at "sq"); intro p H2 hh2)
  | ((with_reducible refine' g_listT ?h1 ?h2 ?_); (case h1 => assumption); (case h2 => walk_at "sq"); intro p H2 hh2)
  | ((with_reducible refine' g_tupL ?h1 ?h2 ?_); (case h1 => assumption); (case h2 => walk_at "sq"); intro p H2 hh2)
  | ((with_reducible refine' g_set ?h1 ?h2 ?h3 ?_); (case h1 => assumption); (case h2 => walk_at "pk"); (case h3 => first | rfl | assumption | exact Evl.ixN_nat (by first | omega | (simp only [List.length_cons, List.length_nil]; omega))); intro H2 hh2)
  | ((with_reducible refine' g_kbm ?h1 ?h2 ?_); (case h1 => assumption); (case h2 => walk_at "mem"))
  | ((with_reducible refine' g_kbm0 ?h1 ?h2 ?_); (case h1 => assumption); (case h2 => walk_at "mem"))
  | ((with_reducible refine' g_app ?h1 ?h2 ?h3 ?_); (case h1 => assumption); (case h2 => walk_at "pk"); (case h3 => walk_at "sz"); intro H2 hh2)
  | ((with_reducible refine' g_kapp ?h1 ?h2 ?h3 ?_); (case h1 => assumption); (case h2 => walk_at "pk"); (case h3 => walk_at "sz"); intro H2 hh2)
  | ((with_reducible refine' g_fld ?h1 ?h2 ?h3 ?h4 ?h5 ?_); (case h1 => assumption); (case h2 => walk_at "mem"); (case h3 => assumption); (case h4 => assumption); (case h5 => rfl))
  | ((with_reducible refine' g_sfld ?h1 ?h2 ?h3 ?h4 ?h5 ?_); (case h1 => assumption); (case h2 => walk_at "pk"); (case h3 => assumption); (case h4 => assumption); (case h5 => decide); intro H2 hh2)
  | ((with_reducible refine' g_meth ?h1 ?h2 ?h3 ?_); (case h1 => assumption); (case h2 => walk_at "mem"); (case h3 => rfl))
  | ((with_reducible refine' g_prop ?h1 ?h2 ?_); (case h1 => assumption); (case h2 => walk_at "mem"))
  | ((with_reducible refine' g_make ?h1 ?_); (case h1 => assumption); intro x H2 hh2)
  | ((with_reducible refine' g_cat ?h1 ?h2 ?h3 ?h4 ?_); (case h1 => assumption); (case h2 => walk_at "mem"); (case h3 => walk_at "mem"); (case h4 => walk_at "sz"); intro p H2 hh2)
  | ((with_reducible refine' g_inT ?h1 ?h2 ?h3 ?h4 ?h5 ?_); (case h1 => assumption); (case h2 => walk_at "mem"); (case h3 => rfl); (case h4 => rfl); (case h5 => rfl)))
local macro_rules | `(tactic| walk_at "gs") => `(tactic| repeat first | walk_at "s1" | walk_at "g1")
local macro_rules | `(tactic| walk_at "ite") => `(tactic| first
  | ((with_reducible refine' w_iteT ?h1 ?_); (case h1 => omega))
  | ((with_reducible refine' w_iteF ?h1 ?_); (case h1 => omega))
  | (with_reducible refine w_ite ?_ ?_ <;> intro hq)
  | ((with_reducible refine' w_iteNT ?h1 ?_); (case h1 => omega))
  | ((with_reducible refine' w_iteNF ?h1 ?_); (case h1 => omega))
  | (with_reducible refine w_iteN ?_ ?_ <;> intro hq))
local macro_rules | `(tactic| walk_at "go") => `(tactic| repeat' first | walk_at "s1" | walk_at "g1" | walk_at "ite")
local macro_rules | `(tactic| walk_at "g1") => `(tactic| first
  | ((with_reducible refine' g_take1 ?h1 ?h2 ?h3 ?h4 ?_); (case h1 => assumption); (case h2 => walk_at "spl"); (case h3 => omega); (case h4 => omega); intro k H2 hk1 hh2)
  | ((with_reducible refine' g_take ?h1 ?h2 ?h4 ?_); (case h1 => assumption); (case h2 => walk_at "spl"); (case h4 => omega); intro k H2 hk1 hh2)
  | ((with_reducible refine' g_betweenN ?h1 ?h2 ?h5 ?h3 ?h4 ?_); (case h1 => assumption); (case h2 => walk_at "spl"); (case h5 => omega); (case h3 => omega); (case h4 => omega); intro k H2 hk1 hk2 hh2)
  | ((with_reducible refine' g_between ?h1 ?h2 ?h3 ?h4 ?_); (case h1 => assumption); (case h2 => walk_at "spl"); (case h3 => omega); (case h4 => omega); intro k H2 hk1 hk2 hh2)
  | ((with_reducible refine' g_size ?h1 ?h2 ?h3 ?h4 ?_); (case h1 => assumption); (case h2 => walk_at "spl"); (case h3 => omega); (case h4 => omega); intro k H2 hk1 hh2)
  | ((with_reducible refine' g_word ?h1 ?h2 ?_); (case h1 => assumption); (case h2 => walk_at "spl"); intro k H2 hk1 hh2))
local macro_rules | `(tactic| walk_at "g1") => `(tactic| first | with_reducible refine w_sl ?_ | with_reducible refine w_part ?_ | with_reducible refine w_noPart ?_ | with_reducible refine w_exI ?_)
section
variable {P : Program} {w : World} {K : PySem.W.Frag} {mg : Str → Option Value} {base : Heap} {aREG aOPS : Addr}
section
variable {K : PySem.W.Frag} {C o l : Addr} {room out n : Nat} {ws : List Int} {R : List Cell} {H : Hp} {Q : VK}
theorem g_extend {L M : List Cell} {p b : Addr} {xs zs : List V} (hh : Hd H L) (m : Pk L (lstC p xs) M) (h2 : lstC b zs ∈ L) (hz : xs.length + zs.length ≤ sizeLine) (q : ∀ H2, Hd H2 (lstC p (xs ++ zs) :: M) → Q .non H2) : rExtend (.ref p) [.ref b] H Q :=
  ⟨p, b, xs, zs, rfl, rfl, (hh.pk m).lst (List.mem_cons_self ..), hh.lst h2, hz, q _ (hh.chgL m Chg.of)⟩
def prD (p : Int × Int) : PyData := .tuple [.int p.1, .int p.2]
/-- the values xs are the pairs ps, by the cells of Z -/
def PrB (K : PySem.W.Frag) (Z : List Cell) (xs : List V) (ps : List (Int × Int)) : Prop := xs.length = ps.length ∧ ∀ H, Hd H Z → Paired (Dn K [] H 1) xs (ps.map prD)
theorem pr_app {α β : Type} {F : α → β → Prop} : ∀ {a c : List α} {b d : List β}, Paired F a b → Paired F c d → Paired F (a ++ c) (b ++ d)
  | _, _, _, _, .nil, h => h
  | _, _, _, _, .cons r t, h => .cons r (pr_app t h)
theorem PrB.sb {Z Z' : List Cell} {xs : List V} {ps : List (Int × Int)} (h : PrB K Z xs ps) (s : ∀ H, Hd H Z' → Hd H Z) : PrB K Z' xs ps := ⟨h.1, fun H hz => h.2 H (s H hz)⟩
theorem PrB.app {Z : List Cell} {xs ys : List V} {ps qs : List (Int × Int)} (h : PrB K Z xs ps) (h2 : PrB K Z ys qs) : PrB K Z (xs ++ ys) (ps ++ qs) := ⟨by rw [List.length_append, List.length_append, h.1, h2.1], fun H hz => by rw [List.map_append]; exact pr_app (h.2 H hz) (h2.2 H hz)⟩
theorem PrB.one {Z : List Cell} {u : Addr} {x y : Int} (m : tupC u [V.int x, V.int y] ∈ Z) : PrB K Z [.ref u] [(x, y)] := ⟨rfl, fun H hz => .cons (Dn.tp (n := 0) hz m (by simp) (.cons Dn.int (.cons Dn.int .nil))) .nil⟩
theorem PrB.nil' {Z : List Cell} : PrB K Z [] [] := ⟨rfl, fun _ _ => .nil⟩
def prsOf (ws : List Int) (n : Nat) : List (Int × Int) := (ws.take n).flatMap fun a => ws.map fun b => (a, b)
theorem prsOf_len {ws : List Int} : ∀ {n : Nat}, n ≤ ws.length → (prsOf ws n).length = n * ws.length := by
  intro n
  induction n with
  | zero => intro _; simp [prsOf]
  | succ n ih =>
    intro h
    have hx := List.getElem?_eq_getElem (l := ws) (i := n) (by omega)
    have e : prsOf ws (n + 1) = prsOf ws n ++ ws.map fun b => (ws[n], b) := by
      unfold prsOf
      rw [List.take_succ, hx, List.flatMap_append]
      simp
    rw [e, List.length_append, ih (by omega), List.length_map, Nat.add_mul, Nat.one_mul]
theorem prsOf_succ {ws : List Int} {n : Nat} {x : Int} (h : ws[n]? = some x) : prsOf ws (n + 1) = prsOf ws n ++ ws.map fun b => (x, b) := by
  unfold prsOf
  rw [List.take_succ, h, List.flatMap_append]
  simp
theorem alikeL_prs : ∀ ps : List (Int × Int), alikeL (ps.map prD) (ps.map prD) = true
  | [] => rfl
  | (x, y) :: ps => by
    show (((decide (x = x)) && (decide (y = y) && true)) && alikeL (ps.map prD) (ps.map prD)) = true
    rw [alikeL_prs ps, decide_eq_true rfl, decide_eq_true rfl]; rfl
end
section
variable {C : Addr}
/-- two loops over one pipe -/
def sp_paired (C : Addr) : Sp := fun vs H Q _ => ∃ (o l il : Addr) (room out : Nat) (ws : List Int) (R : List Cell), vs = [.ref o, .ref il] ∧ Hd H R ∧ pipI C o room l out ∈ R ∧ lstC l (ws.map V.int) ∈ R ∧ lstC il (ws.map V.int) ∈ R ∧ ws.length ≤ 17 ∧ ∀ H', Hd H' R → Q (.bl true) H'
theorem c_paired (T : Txt K mg aREG aOPS) (d : DefAt K mg "_law_paired" s__law_paired) (ci : ItrK P w K mg base 1 C (PiG C)) (c__law_alike : C8.Cal P w K mg base 3 "_law_alike" (sp_alikeB K 3) []) : C8.Cal P w K mg base 4 "_law_paired" (sp_paired C) [] := by
  refine mk d sc__law_paired (fun _ _ _ _ _ _ us hl => match us, hl with | [_, _], _ => rfl) (fun vs H Q E h => ?_) (fun f cdv A outer s H vs Q E hr h => ?_)
  · obtain ⟨o, l, il, room, out, ws, R, rfl, _⟩ := h
    rfl
  · obtain ⟨o, l, il, room, out, ws, R, rfl, hh, m1, m2, m3, hl, q⟩ := h
    refine ⟨_, (pss_cons (ps_set (i := 2) sc__law_paired.nd rfl (Or.inr rfl) pe_int)
  (pss_cons (ps_set (i := 3) sc__law_paired.nd rfl (Or.inl rfl) (pe_lst pa_nil))
  (pss_cons (ps_set (i := 4) sc__law_paired.nd rfl (Or.inl rfl) (pe_lst pa_nil))
  (pss_cons (ps_for PassesOwn.never rfl (pi_own ci hr (by first | decide | omega) (pv 0)) (pg_name (i := 5) sc__law_paired.nd rfl (Or.inl rfl))
    (pss_cons (ps_aug (i := 2) sc__law_paired.nd rfl (Or.inr rfl) pe_int ip_add)
      (pss_cons (ps_if (pt_cmpR op_gt (pv 2) (pe_callB Wk.b_len (by rfl) T.b_len (by decide +kernel) (pa_cons (pv 1) pa_nil)) (nomark _))
        (pss_one (ps_ret pe_bl))
        pss_nil)
      (pss_cons (ps_expr (pe_bm PySem.F.plainAttrs_list PySem.F.slot_list_extend PySem.F.type_list_extend mt_extend (pv 3) (pa_cons (pe_lc (own := [("x", 6)]) rfl sc__law_paired.nd (pi_list (pv 1)) (blkOk_by (own := [("x", 6)]) (N := nm__law_paired) (sc := defScope s__law_paired) (by decide +kernel)) (fun _ _ _ _ _ => (pg_name (i := 6) sc__law_paired.nd rfl (Or.inl rfl))) (fun _ _ _ _ _ => pts_nil) (fun _ _ _ _ _ => (pe_tup (pa_cons (pe_ix (show IxR _ (rIxL _) from ix_list) (pv 1) (pe_op op_sub (pv 2) pe_int) (fun _ _ => rfl)) (pa_cons (pv 6) pa_nil))))) pa_nil)))
      (pss_one (ps_for PassesOwn.never rfl (pi_own ci hr (by first | decide | omega) (pv 0)) (pg_name (i := 6) sc__law_paired.nd rfl (Or.inl rfl))
        (pss_cons (ps_if (pt_cmpR op_ge (pe_callB Wk.b_len (by rfl) T.b_len (by decide +kernel) (pa_cons (pv 4) pa_nil)) (pe_callB Wk.b_len (by rfl) T.b_len (by decide +kernel) (pa_cons (pv 3) pa_nil)) (nomark _))
            (pss_one (ps_ret pe_bl))
            pss_nil)
          (pss_one (ps_expr (pe_bm PySem.F.plainAttrs_list PySem.F.slot_list_append PySem.F.type_list_append mt_append (pv 4) (pa_cons (pe_tup (pa_cons (pv 5) (pa_cons (pv 6) pa_nil))) pa_nil)))))))))))
  (pss_one (ps_ret (pe_and (pe_cmpR op_eq (pv 2) (pe_callB Wk.b_len (by rfl) T.b_len (by decide +kernel) (pa_cons (pv 1) pa_nil)) (nomark _)) (pe_one (C8.pe_c c__law_alike hr (by first | decide | omega) rfl (pa_cons (pv 3) (pa_cons (pv 4) pa_nil))))))))))), ?_⟩
    have hlw : (ws.map V.int).length = ws.length := List.length_map ..
    walk_at "gs"
    rename_i dl H1 h1 tl H2 h2
    refine w_forO ?_
    walk_at "gs"
    refine l_own h2 (by walk_at "mem") (by walk_at "mem") (fun i σ H => i ≤ ws.length ∧ ∃ x5 x6 dv tv Z, σ = [some (.ref o), some (.ref il), some (.int (i : Nat)), some (.ref dl), some (.ref tl), x5, x6] ∧ PrB K Z dv (prsOf ws i) ∧ PrB K Z tv (prsOf ws i) ∧ Hd H (lstC dl dv :: lstC tl tv :: (Z ++ R))) ⟨Nat.zero_le _, _, _, [], [], [], rfl, .nil', .nil', Hd.sb (A := lstC dl [] :: lstC tl [] :: R) h2 (by walk_at "sbx")⟩ (fun i σ H hi hP => ?_) (fun i x σ H hx hP => ?_) (fun σ H hP => ?_)
    · obtain ⟨_, x5, x6, dv, tv, Z, rfl, b1, b2, h3⟩ := hP
      exact h3.sqL (by walk_at "mem")
    · obtain ⟨_, x5, x6, dv, tv, Z, rfl, b1, b2, h3⟩ := hP
      have hjl := (List.getElem?_eq_some_iff.mp hx).1
      clear hh h1 h2
      dsimp only [List.set]
      walk_at "gs"
      rw [decide_eq_false (show ¬ ((List.map V.int ws).length : Int) < (i : Int) + 1 by rw [hlw]; omega)]
      walk_at "gs"
      refine g_lcL h3 (h3.sqL (by walk_at "mem")) (fun k D H => ∃ (cv : List V) (Y : List Cell), PrB K Y cv ((ws.take k).map fun b => (x, b)) ∧ Hd H (lstC D cv :: lstC dl dv :: lstC tl tv :: (Y ++ (Z ++ R)))) (fun D H1 h1 => ⟨[], [], .nil', Hd.sb (A := lstC D [] :: lstC dl dv :: lstC tl tv :: (Z ++ R)) h1 (by walk_at "sbx")⟩) (fun k D H _ h => by obtain ⟨_, _, _, h⟩ := h; exact h.sqL (by walk_at "mem")) ?_ ?_
      · rintro k y D H4 hy ⟨cv, Y, b3, h4⟩
        obtain ⟨y, hyw, rfl⟩ : ∃ z, ws[k]? = some z ∧ V.int z = y := by simpa [List.getElem?_map] using hy
        have hk := (List.getElem?_eq_some_iff.mp hyw).1
        clear h3
        walk_at "gs"
        rw [show ((i : Int) + 1 - 1) = (i : Int) by omega]
        walk_at "gs"
        rename_i z hz u H5 h5
        obtain rfl : x = z := Option.some.inj (hx.symm.trans hz)
        refine g_kapp h5 (by walk_at "pk") (by have := b3.1; rw [List.length_map, List.length_take] at this; have : 400 < sizeLine := (by rw [sizeLine_eq]; decide); omega) fun H6 h6 => ?_
        refine ⟨cv ++ [.ref u], tupC u [V.int x, V.int y] :: Y, ?_, Hd.sb (A := lstC D (cv ++ [.ref u]) :: lstC dl dv :: lstC tl tv :: tupC u [V.int x, V.int y] :: (Y ++ (Z ++ R))) h6 (by walk_at "sbx")⟩
        rw [List.take_succ, hyw, List.map_append]
        exact (b3.sb fun H h => h.tail).app (PrB.one (.head _))
      · rintro D H4 ⟨cv, Y, b3, h4⟩
        clear h3
        walk_at "gs"
        rw [hlw, List.take_length] at b3
        have hdl : dv.length = i * ws.length := by rw [b1.1, prsOf_len (by omega)]
        have htl : tv.length = i * ws.length := by rw [b2.1, prsOf_len (by omega)]
        have hcl : cv.length = ws.length := by rw [b3.1, List.length_map]
        have him : i * ws.length ≤ 289 := Nat.mul_le_mul (show i ≤ 17 by omega) hl
        have hsl : 400 < sizeLine := by rw [sizeLine_eq]; decide
        refine g_extend h4 (by walk_at "pk") (by walk_at "mem") (by omega) fun H5 h5 => ?_
        have h5 : Hd H5 (lstC dl (dv ++ cv) :: lstC tl tv :: (Y ++ (Z ++ R))) := Hd.sb h5 (by walk_at "sbx")
        rw [← List.append_assoc] at h5
        have b4 : PrB K (Y ++ Z) (dv ++ cv) (prsOf ws (i + 1)) := by
          rw [prsOf_succ hx]
          exact (b1.sb fun H h => Hd.sb h (by walk_at "sbx")).app (b3.sb fun H h => Hd.sb h (by walk_at "sbx"))
        have b5 : PrB K (Y ++ Z) tv (prsOf ws i) := b2.sb fun H h => Hd.sb h (by walk_at "sbx")
        generalize Y ++ Z = Z2 at h5 b4 b5
        generalize hdv2 : dv ++ cv = dv2 at h5 b4
        have hd2 : dv2.length = i * ws.length + ws.length := by rw [← hdv2, List.length_append]; omega
        clear h4 b3 b1 b2
        dsimp only
        refine w_forO ?_
        walk_at "gs"
        refine l_own h5 (by walk_at "mem") (by walk_at "mem") (fun k σ H => k ≤ ws.length ∧ ∃ x6 tv Z, σ = [some (.ref o), some (.ref il), some (.int ((i : Int) + 1)), some (.ref dl), some (.ref tl), some (.int x), x6] ∧ PrB K Z dv2 (prsOf ws (i + 1)) ∧ PrB K Z tv (prsOf ws i ++ (ws.take k).map fun b => (x, b)) ∧ Hd H (lstC dl dv2 :: lstC tl tv :: (Z ++ R))) ⟨Nat.zero_le _, _, tv, Z2, rfl, b4, by simpa using b5, h5⟩ (fun k σ H hk hP => ?_) (fun k y σ H hy hP => ?_) (fun σ H hP => ?_)
        · obtain ⟨_, x6, tv, Z, rfl, b1, b2, h6⟩ := hP
          exact h6.sqL (by walk_at "mem")
        · obtain ⟨_, x6, tv, Z, rfl, b1, b2, h6⟩ := hP
          have hk := (List.getElem?_eq_some_iff.mp hy).1
          have htl : tv.length = i * ws.length + k := by
            rw [b2.1, List.length_append, prsOf_len (by omega), List.length_map, List.length_take]
            omega
          clear h5
          dsimp only [List.set]
          walk_at "gs"
          rw [decide_eq_false (show ¬ (dv2.length : Int) ≤ (tv.length : Int) by omega)]
          walk_at "gs"
          rename_i u H7 h7 H8 h8
          refine ⟨by omega, _, tv ++ [.ref u], tupC u [V.int x, V.int y] :: Z, rfl, b1.sb fun H h => h.tail, ?_, Hd.sb (A := lstC dl dv2 :: lstC tl (tv ++ [.ref u]) :: tupC u [V.int x, V.int y] :: (Z ++ R)) h8 (by walk_at "sbx")⟩
          rw [List.take_succ, hy, List.map_append, ← List.append_assoc]
          exact (b2.sb fun H h => h.tail).app (PrB.one (.head _))
        · obtain ⟨_, x6, tv, Z, rfl, b1, b2, h6⟩ := hP
          rw [List.take_length, ← prsOf_succ hx] at b2
          exact ⟨by omega, _, _, dv2, tv, Z, rfl, b1, b2, h6⟩
    · obtain ⟨_, x5, x6, dv, tv, Z, rfl, b1, b2, h3⟩ := hP
      clear hh h1 h2
      walk_at "gs"
      rw [decide_eq_true (show ((ws.length : Nat) : Int) = ((List.map V.int ws).length : Int) by rw [hlw])]
      have hb : (prsOf ws ws.length).length ≤ 289 := by
        rw [prsOf_len (Nat.le_refl _)]
        exact Nat.mul_le_mul hl hl
      walk_at "gs"
      refine g_alikeB (Dn.lt (n := 1) h3 (by walk_at "mem") (by have := b1.1; omega) (b1.2 _ (Hd.sb h3 (by walk_at "sbx")))) (Dn.lt (n := 1) h3 (by walk_at "mem") (by have := b2.1; omega) (b2.2 _ (Hd.sb h3 (by walk_at "sbx")))) ?_
      rw [show alikeD (.list ((prsOf ws ws.length).map prD)) (.list ((prsOf ws ws.length).map prD)) = true from alikeL_prs _]
      walk_at "gs"
      exact q H (Hd.sb h3 (by walk_at "sbx"))
end
end
end K45
set_option Elab.async false
set_option linter.all false
set_option maxRecDepth 100000
set_option maxHeartbeats 4000000
namespace K45
open PySem PySem.Spec PyProof.Rows L2 Wk
local macro_rules | `(tactic| walk_at "u1") => `(tactic| fail "no more")
local macro_rules | `(tactic| walk_at "pos") => `(tactic| first | assumption | omega | decide | (simp only [Int.ofNat_eq_natCast] at *; omega))
local macro_rules | `(tactic| walk_at "sz") => `(tactic| first
  | (simp only [List.length_cons, List.length_nil]; decide)
  | exact Evl.sz_of (by omega)
  | exact Evl.sz_lt (by omega)
  | exact Evl.sz_of (by simp only [List.length_map, List.length_append, List.length_cons, List.length_nil, List.length_replicate]; omega)
  | exact Evl.sz_lt (by simp only [List.length_map, List.length_append, List.length_cons, List.length_nil, List.length_replicate]; omega))
local macro_rules | `(tactic| walk_at "cond") => `(tactic| first
  | exact Or.inr ⟨by decide, by decide⟩
  | (show (0 : Int) < _; first | decide | assumption | omega)
  | exact Or.inl ⟨by omega, by omega⟩
  | exact Or.inr ⟨by omega, by omega⟩
  | exact ⟨by decide, by decide, by decide⟩
  | exact log2_lt (by omega) (by omega)
  | exact ⟨by omega, by omega⟩)
local macro_rules | `(tactic| walk_at "ty") => `(tactic| first
  | exact ty_int | exact ty_bl | exact ty_str | exact ty_non
  | exact ty_L (by assumption) | exact ty_T (by assumption)
  | exact ty_L (SqL.of (by assumption)) | exact ty_T (SqT.of (by assumption)))
local macro_rules | `(tactic| walk_at "kit") => `(tactic| first
  | exact k_ii | exact k_ib | exact k_is | exact k_il | exact k_it
  | exact k_bb | exact k_bi | exact k_bs | exact k_bl | exact k_bt
  | exact k_ss | exact k_sb | exact k_si | exact k_sl | exact k_st
  | exact k_ll | exact k_lb | exact k_li | exact k_ls | exact k_lt
  | exact k_tt | exact k_tb | exact k_ti | exact k_ts | exact k_tl
  | exact k_nn | exact k_ni | exact k_ns | exact k_nl | exact k_nt)
local macro_rules | `(tactic| walk_at "s1") => `(tactic| first
  | with_reducible refine w_seq ?_
  | with_reducible refine w_set ?_
  | with_reducible refine w_op ?_
  | ((with_reducible refine' w_var ?h1 ?_); (case h1 => rfl))
  | with_reducible refine w_c ?_
  | with_reducible refine w_cb ?_
  | with_reducible refine w_cons ?_
  | with_reducible refine w_nil ?_
  | with_reducible refine w_I0 ?_
  | ((with_reducible refine' w_I ?c1 ?_); case c1 => walk_at "cond")
  | with_reducible refine w_ret ?_
  | with_reducible refine w_next ?_
  | with_reducible refine w_ifS ?_
  | with_reducible refine w_test ?_
  | with_reducible refine w_tB ?_
  | with_reducible refine w_k ?_
  | with_reducible refine w_eqI ?_
  | with_reducible refine w_neI ?_
  | with_reducible refine w_eqS ?_
  | with_reducible refine w_neS ?_
  | with_reducible refine w_and ?_
  | with_reducible refine w_or ?_
  | with_reducible refine w_not ?_
  | with_reducible refine w_andV ?_
  | with_reducible refine w_orV ?_
  | with_reducible refine w_notV ?_
  | with_reducible refine w_ifE ?_
  | with_reducible refine w_true ?_
  | with_reducible refine w_false ?_
  | with_reducible refine w_ntrue ?_
  | with_reducible refine w_nfalse ?_
  | with_reducible refine w_call ?_
  | with_reducible refine c_int ?_
  | with_reducible refine c_abs ?_
  | with_reducible refine c_max ?_
  | with_reducible refine c_min ?_
  | with_reducible refine w_drop ?_
  | with_reducible refine w_sfld ?_
  | with_reducible refine w_meth ?_
  | with_reducible refine w_make ?_
  | with_reducible refine w_prop ?_
  | with_reducible refine w_callK ?_
  | with_reducible refine w_callN ?_
  | with_reducible refine w_star ?_
  | with_reducible refine w_gcons ?_
  | with_reducible refine w_gname ?_
  | with_reducible refine w_gnil ?_
  | with_reducible refine w_retN ?_
  | with_reducible refine w_tup ?_
  | with_reducible refine w_lst ?_
  | with_reducible refine w_fld ?_
  | with_reducible refine w_bm ?_
  | with_reducible refine w_bm0 ?_
  | with_reducible refine w_forL ?_
  | with_reducible refine w_forT ?_
  | with_reducible refine w_forS ?_
  | with_reducible refine w_forR ?_
  | with_reducible refine w_lcR ?_
  | with_reducible refine w_lcL ?_
  | with_reducible refine w_lcT ?_
  | with_reducible refine w_isN ?_
  | with_reducible refine w_notN ?_
  | with_reducible refine w_asg ?_
  | with_reducible refine w_gsub ?_
  | ((with_reducible refine' w_aug ?h1 ?_); (case h1 => rfl))
  | with_reducible refine w_augS ?_
  | with_reducible refine w_ipI ?_
  | with_reducible refine w_un ?_
  | with_reducible refine w_U ?_
  | ((with_reducible refine' w_iteF ?f1 ?_); case f1 => (first | (intro h; cases h; done) | decide))
  | ((with_reducible refine' w_iteT ?f1 ?_); case f1 => rfl)
  | ((with_reducible refine' w_iteNF ?f1 ?_); case f1 => rfl)
  | ((with_reducible refine' w_iteNT ?f1 ?_); case f1 => (first | (intro h; cases h; done) | decide))
  | ((with_reducible refine' c_isi ?t1 ?k1 ?_); (case t1 => walk_at "ty"); (case k1 => walk_at "kit"))
  | ((with_reducible refine' w_eq ?e1 ?_); case e1 => rfl)
  | ((with_reducible refine' w_ne ?e1 ?_); case e1 => rfl)
  | walk_at "u1")
local macro_rules | `(tactic| walk_at "s") => `(tactic| repeat walk_at "s1")
local macro_rules | `(tactic| walk_at "mem") => `(tactic| first | with_reducible exact List.mem_cons_self .. | ((with_reducible refine' List.mem_cons_of_mem _ ?q); (case q => walk_at "mem")) | assumption | ((with_reducible refine' List.mem_append_right _ ?q); (case q => walk_at "mem")) | (exact List.mem_append_left _ (by assumption)))
local macro_rules | `(tactic| walk_at "pk") => `(tactic| first | with_reducible exact Pk.here | ((with_reducible refine' Pk.there ?q); (case q => walk_at "pk")) | ((with_reducible refine' Pk.app ?q); (case q => walk_at "pk")))
local macro_rules | `(tactic| walk_at "pkb") => `(tactic| first | with_reducible exact PkB.here | ((with_reducible refine' PkB.there ?q); (case q => walk_at "pkb")) | ((with_reducible refine' PkB.app ?q); (case q => walk_at "pkb")))
local macro_rules | `(tactic| walk_at "spl") => `(tactic| first | with_reducible exact Spl.nil | ((with_reducible refine' Spl.cons ?h ?t); (case h => walk_at "pk"); (case t => walk_at "spl")) | ((with_reducible refine' Spl.blk ?h ?t); (case h => walk_at "pkb"); (case t => walk_at "spl")))
local macro_rules | `(tactic| walk_at "sbx") => `(tactic| first | with_reducible exact Sb.refl | with_reducible exact Sb.nil | with_reducible exact Sb.left | ((with_reducible refine' Sb.cons ?h ?t); (case h => walk_at "pk"); (case t => walk_at "sbx")) | ((with_reducible refine' Sb.blk ?h ?t); (case h => walk_at "pkb"); (case t => walk_at "sbx")) | ((with_reducible refine' Sb.drop ?q); (case q => walk_at "sbx")) | ((with_reducible refine' Sb.right ?q); (case q => walk_at "sbx")))
local macro_rules | `(tactic| walk_at "hd") => `(tactic| first | assumption | exact Hd.sb (by assumption) (by walk_at "sbx"))
local macro_rules | `(tactic| walk_at "sq") => `(tactic| first
  | assumption
  | exact Hd.sqL (by assumption) (by walk_at "mem")
  | exact Hd.sqT (by assumption) (by walk_at "mem")
  | exact Hd.sqF (by assumption) (by walk_at "mem")
  | (refine .inl ?_; walk_at "sq")
  | (refine .inr ?_; walk_at "sq"))
local macro_rules | `(tactic| walk_at "at") => `(tactic| first | rfl | assumption | exact atI_nat (by assumption))
local macro_rules | `(tactic| walk_at "dn1") => `(tactic| first
  | exact Dn.int | exact Dn.str | exact Dn.non | exact Dn.bl | assumption
  | ((refine' Dn.tp ?a1 ?m1 ?l1 ?p1); (case a1 => assumption); (case m1 => walk_at "mem"); (case l1 => (simp only [List.length_cons, List.length_nil]; omega)); (case p1 => walk_at "dns"))
  | ((refine' Dn.lt ?a1 ?m1 ?l1 ?p1); (case a1 => assumption); (case m1 => walk_at "mem"); (case l1 => (simp only [List.length_cons, List.length_nil]; omega)); (case p1 => walk_at "dns")))
local macro_rules | `(tactic| walk_at "dns") => `(tactic| first | exact Paired.nil | exact Dn.ints | ((refine' Paired.cons ?a1 ?b1); (case a1 => walk_at "dn1"); (case b1 => walk_at "dns")))
local macro_rules | `(tactic| walk_at "g1") => `(tactic| first
  | ((with_reducible refine' g_ixI ?h1 ?h2 ?h3 ?_); (case h1 => assumption); (case h2 => walk_at "mem"); (case h3 => omega); intro z hz)
  | ((with_reducible refine' g_ixIT ?h1 ?h2 ?h3 ?_); (case h1 => assumption); (case h2 => walk_at "mem"); (case h3 => omega); intro z hz)
  | ((with_reducible refine' g_setI ?h1 ?h2 ?h3 ?_); (case h1 => assumption); (case h2 => walk_at "pk"); (case h3 => omega); intro H2 hh2)
  | ((with_reducible refine' w_ixL ?h1 ?h2 ?_); (case h1 => walk_at "sq"); (case h2 => walk_at "at"))
  | ((with_reducible refine' w_ixT ?h1 ?h2 ?_); (case h1 => walk_at "sq"); (case h2 => walk_at "at"))
  | ((with_reducible refine' w_ixAny ?h1 ?h2 ?_); (case h1 => walk_at "sq"); (case h2 => walk_at "at"))
  | ((with_reducible refine' c_lenA ?h1 ?_); (case h1 => walk_at "sq"))
  | ((with_reducible refine' c_isi ?t1 ?k1 ?_); (case t1 => first | exact ty_T (by walk_at "sq") | exact ty_L (by walk_at "sq")); (case k1 => walk_at "kit"))
  | ((with_reducible refine' g_lst ?h1 ?h2 ?_); (case h1 => assumption); (case h2 => walk_at "sz"); intro p H2 hh2)
  | ((with_reducible refine' g_tup ?h1 ?h2 ?_); (case h1 => assumption); (case h2 => walk_at "sz"); intro p H2 hh2)
  | ((with_reducible refine' g_dict ?h1 ?_); (case h1 => assumption); intro p H2 hh2)
  | ((with_reducible refine' g_listL ?h1 ?h2 ?_); (case h1 => assumption); (case h2 => walk_at "sq"); intro p H2 hh2)
  | ((with_reducible refine' g_listT ?h1 ?h2 ?_); (case h1 => assumption); (case h2 => walk_at "sq"); intro p H2 hh2)
  | ((with_reducible refine' g_tupL ?h1 ?h2 ?_); (case h1 => assumption); (case h2 => walk_at "sq"); intro p H2 hh2)
  | ((with_reducible refine' g_set ?h1 ?h2 ?h3 ?_); (case h1 => assumption); (case h2 => walk_at "pk"); (case h3 => first | rfl | assumption | exact Evl.ixN_nat (by first | omega | (simp only [List.length_cons, List.length_nil]; omega))); intro H2 hh2)
  | ((with_reducible refine' g_kbm ?h1 ?h2 ?_); (case h1 => assumption); (case h2 => walk_at "mem"))
  | ((with_reducible refine' g_kbm0 ?h1 ?h2 ?_); (case h1 => assumption); (case h2 => walk_at "mem"))
  | ((with_reducible refine' g_app ?h1 ?h2 ?h3 ?_); (case h1 => assumption); (case h2 => walk_at "pk"); (case h3 => walk_at "sz"); intro H2 hh2)
  | ((with_reducible refine' g_kapp ?h1 ?h2 ?h3 ?_); (case h1 => assumption); (case h2 => walk_at "pk"); (case h3 => walk_at "sz"); intro H2 hh2)
  | ((with_reducible refine' g_fld ?h1 ?h2 ?h3 ?h4 ?h5 ?_); (case h1 => assumption); (case h2 => walk_at "mem"); (case h3 => assumption); (case h4 => assumption); (case h5 => rfl))
  | ((with_reducible refine' g_sfld ?h1 ?h2 ?h3 ?h4 ?h5 ?_); (case h1 => assumption); (case h2 => walk_at "pk"); (case h3 => assumption); (case h4 => assumption); (case h5 => decide); intro H2 hh2)
  | ((with_reducible refine' g_meth ?h1 ?h2 ?h3 ?_); (case h1 => assumption); (case h2 => walk_at "mem"); (case h3 => rfl))
  | ((with_reducible refine' g_prop ?h1 ?h2 ?_); (case h1 => assumption); (case h2 => walk_at "mem"))
  | ((with_reducible refine' g_make ?h1 ?_); (case h1 => assumption); intro x H2 hh2)
  | ((with_reducible refine' g_cat ?h1 ?h2 ?h3 ?h4 ?_); (case h1 => assumption); (case h2 => walk_at "mem"); (case h3 => walk_at "mem"); (case h4 => walk_at "sz"); intro p H2 hh2)
  | ((with_reducible refine' g_inT ?h1 ?h2 ?h3 ?h4 ?h5 ?_); (case h1 => assumption); (case h2 => walk_at "mem"); (case h3 => rfl); (case h4 => rfl); (case h5 => rfl)))
local macro_rules | `(tactic| walk_at "gs") => `(tactic| repeat first | walk_at "s1" | walk_at "g1")
local macro_rules | `(tactic| walk_at "ite") => `(tactic| first
  | ((with_reducible refine' w_iteT ?h1 ?_); (case h1 => omega))
  | ((with_reducible refine' w_iteF ?h1 ?_); (case h1 => omega))
  | (with_reducible refine w_ite ?_ ?_ <;> intro hq)
  | ((with_reducible refine' w_iteNT ?h1 ?_); (case h1 => omega))
  | ((with_reducible refine' w_iteNF ?h1 ?_); (case h1 => omega))
  | (with_reducible refine w_iteN ?_ ?_ <;> intro hq))
local macro_rules | `(tactic| walk_at "go") => `(tactic| repeat' first | walk_at "s1" | walk_at "g1" | walk_at "ite")
local macro_rules | `(tactic| walk_at "g1") => `(tactic| first
  | ((with_reducible refine' g_take1 ?h1 ?h2 ?h3 ?h4 ?_); (case h1 => assumption); (case h2 => walk_at "spl"); (case h3 => omega); (case h4 => omega); intro k H2 hk1 hh2)
  | ((with_reducible refine' g_take ?h1 ?h2 ?h4 ?_); (case h1 => assumption); (case h2 => walk_at "spl"); (case h4 => omega); intro k H2 hk1 hh2)
  | ((with_reducible refine' g_betweenN ?h1 ?h2 ?h5 ?h3 ?h4 ?_); (case h1 => assumption); (case h2 => walk_at "spl"); (case h5 => omega); (case h3 => omega); (case h4 => omega); intro k H2 hk1 hk2 hh2)
  | ((with_reducible refine' g_between ?h1 ?h2 ?h3 ?h4 ?_); (case h1 => assumption); (case h2 => walk_at "spl"); (case h3 => omega); (case h4 => omega); intro k H2 hk1 hk2 hh2)
  | ((with_reducible refine' g_size ?h1 ?h2 ?h3 ?h4 ?_); (case h1 => assumption); (case h2 => walk_at "spl"); (case h3 => omega); (case h4 => omega); intro k H2 hk1 hh2)
  | ((with_reducible refine' g_word ?h1 ?h2 ?_); (case h1 => assumption); (case h2 => walk_at "spl"); intro k H2 hk1 hh2))
section
variable {P : Program} {w : World} {K : PySem.W.Frag} {mg : Str → Option Value} {base : Heap} {aREG aOPS : Addr}
/-- what was sent, how many came out, behind a call -/
def stS (room : Nat) (sent : List Int) (out : Nat) : PCall → List Int
  | .send x _ => if (sent.drop out).length = room then sent else sent ++ [x]
  | _ => sent
theorem nxt_st {room out : Nat} {sent : List Int} (ho : out ≤ sent.length) (cl : PCall) : nxtW room (sent.drop out) cl = (stS room sent out cl).drop (nxtO (sent.drop out) out cl) := by
  cases cl with
  | send x k =>
    show (if (sent.drop out).length = room then sent.drop out else sent.drop out ++ [x]) = (if (sent.drop out).length = room then sent else sent ++ [x]).drop out
    split
    · rfl
    · rw [List.drop_append_of_le_length ho]
  | bad v k => rfl
  | recv =>
    show (sent.drop out).tail = sent.drop (match sent.drop out with
      | [] => out
      | _ :: _ => out + 1)
    cases e : sent.drop out with
    | nil => exact e.symm
    | cons x r =>
      show r = sent.drop (out + 1)
      rw [← List.drop_drop, e]
      rfl
theorem ans_alike {room : Nat} {ws : List Int} {cl : PCall} : alikeD (ansD room ws cl) (ansD room ws cl) = true := by
  cases cl with
  | send x k => simp [ansD, alikeD, alikeL]
  | bad v k => simp [ansD, alikeD, alikeL]
  | recv => cases ws <;> simp [ansD, alikeD, alikeL]
section
variable {C : Addr}
def sp_step (K : PySem.W.Frag) (C : Addr) : Sp := fun vs H Q _ => ∃ (o l sl t : Addr) (cl : PCall) (room out : Nat) (sent : List Int) (R : List Cell), vs = [.ref o, .int room, .ref sl, .int out, .ref t] ∧ CallOk K R cl ∧ out ≤ sent.length ∧ (sent.drop out).length ≤ room ∧ sent.length ≤ 99 ∧ tupC t (cV cl) ∈ R ∧ lstC sl (sent.map V.int) ∈ R ∧ Hd H (pipI C o room l out :: lstC l ((sent.drop out).map V.int) :: R) ∧
  ∀ u sl' Z H', (lstC sl' ((stS room sent out cl).map V.int) ∈ Z ∨ sl' = sl ∧ stS room sent out cl = sent) → Hd H' (tupC u [.ref sl', .int (nxtO (sent.drop out) out cl : Nat)] :: pipI C o room l (nxtO (sent.drop out) out cl) :: lstC l (((stS room sent out cl).drop (nxtO (sent.drop out) out cl)).map V.int) :: (Z ++ R)) → Q (.ref u) H'
theorem c_step (T : Txt K mg aREG aOPS) (d : DefAt K mg "_law_step" s__law_step) (c__law_due : C8.Cal P w K mg base 2 "_law_due" (sp_due K) []) (c__law_called : C8.Cal P w K mg base 6 "_law_called" (sp_called K C) []) (c__law_alike : C8.Cal P w K mg base 3 "_law_alike" (sp_alikeB K 3) []) : C8.Cal P w K mg base 7 "_law_step" (sp_step K C) [] := by
  refine mk d sc__law_step (fun _ _ _ _ _ _ us hl => match us, hl with | [_, _, _, _, _], _ => rfl) (fun vs H Q E h => ?_) (fun f cdv A outer s H vs Q E hr h => ?_)
  · obtain ⟨o, l, sl, t, cl, room, out, sent, R, rfl, _⟩ := h
    rfl
  · obtain ⟨o, l, sl, t, cl, room, out, sent, R, rfl, hc, ho, hm, hl, mt, ms, hh, q⟩ := h
    refine ⟨_, (pss_cons (ps_set (i := 5) sc__law_step.nd rfl (Or.inl rfl) (C8.pe_c c__law_due hr (by first | decide | omega) rfl (pa_cons (pv 4) (pa_cons (pv 1) (pa_cons (pv 2) (pa_cons (pv 3) pa_nil))))))
  (pss_cons (ps_if (pt_not (pt_val (C8.pe_c c__law_alike hr (by first | decide | omega) rfl (pa_cons (pv 5) (pa_cons (C8.pe_c c__law_called hr (by first | decide | omega) rfl (pa_cons (pv 0) (pa_cons (pv 4) pa_nil))) pa_nil)))))
    (pss_one (ps_ret pe_non))
    pss_nil)
  (pss_cons (ps_if (PW.pt (pw_and (pt_cmpR op_eq (pe_ix ix_tup (pv 4) pe_int (fun _ _ => rfl)) pe_str (nomark _)) (pw_and1 (pt_val (C8.pe_c c__law_alike hr (by first | decide | omega) rfl (pa_cons (pv 5) (pa_cons (pe_tup (pa_cons pe_str (pa_cons pe_bl pa_nil))) pa_nil)))))))
    (pss_one (ps_ret (pe_tup (pa_cons (pe_op op_cat (pv 2) (pe_lst (pa_cons (pe_ix ix_tup (pv 4) pe_int (fun _ _ => rfl)) pa_nil))) (pa_cons (pv 3) pa_nil)))))
    pss_nil)
  (pss_cons (ps_if (PW.pt (pw_and (pt_cmpR op_eq (pe_ix ix_tup (pv 4) pe_int (fun _ _ => rfl)) pe_str (nomark _)) (pw_and1 (pt_cmpR op_notN1 (pe_ix ix_tup (pv 5) pe_int (fun _ _ => rfl)) pe_non (nomark _)))))
    (pss_one (ps_ret (pe_tup (pa_cons (pv 2) (pa_cons (pe_op op_add (pv 3) pe_int) pa_nil)))))
    pss_nil)
  (pss_one (ps_ret (pe_tup (pa_cons (pv 2) (pa_cons (pv 3) pa_nil))))))))), ?_⟩
    have hld : (sent.drop out).length = sent.length - out := List.length_drop
    walk_at "gs"
    refine ⟨t, sl, cl, room, out, sent, _, rfl, hc.sb (fun H h => h.tail.tail), ho, hm, hh, .tail _ (.tail _ mt), .tail _ (.tail _ ms), fun u1 H1 h1 => ?_⟩
    clear hh
    walk_at "gs"
    refine ⟨o, l, t, cl, room, out, sent.drop out, tupC u1 (ansV room (sent.drop out) cl) :: R, rfl, hc.sb (fun H h => h.tail), by omega, .tail _ mt, Hd.sb h1 (by walk_at "sbx"), fun u2 H2 h2 => ?_⟩
    clear h1
    walk_at "gs"
    refine g_alikeB (ans_dn h2 (by walk_at "mem")) (ans_dn h2 (by walk_at "mem")) ?_
    rw [ans_alike]
    rw [nxt_st ho] at h2
    have q0 := fun u H' (e : stS room sent out cl = sent) (h : Hd H' (tupC u [.ref sl, .int (nxtO (sent.drop out) out cl : Nat)] :: pipI C o room l (nxtO (sent.drop out) out cl) :: lstC l (((stS room sent out cl).drop (nxtO (sent.drop out) out cl)).map V.int) :: R)) => q u sl [] H' (.inr ⟨rfl, e⟩) h
    cases cl with
    | send x k =>
      have mt : tupC t [V.str (Str.ofString "send"), V.int x, V.int (k : Int)] ∈ R := mt
      have eO : nxtO (sent.drop out) out (.send x k) = out := rfl
      rw [eO] at h2 q0 q
      walk_at "gs"
      rename_i u3 H3 h3
      refine g_alikeB (d1 := ansD room (sent.drop out) (.send x k)) (d2 := .tuple [.str "answer", .bool true]) (ans_dn h3 (by walk_at "mem")) (Dn.tp (n := 1) h3 (.head _) (by simp) (.cons Dn.str (.cons Dn.bl .nil))) ?_
      by_cases e : (sent.drop out).length = room
      · rw [show alikeD (ansD room (sent.drop out) (.send x k)) (.tuple [.str "answer", .bool true]) = false from by simp [ansD, alikeD, alikeL, e]]
        have e2 : stS room sent out (.send x k) = sent := if_pos e
        walk_at "gs"
        rename_i u4 H4 h4
        exact q0 u4 H4 e2 (Hd.sb h4 (by walk_at "sbx"))
      · rw [show alikeD (ansD room (sent.drop out) (.send x k)) (.tuple [.str "answer", .bool true]) = true from by
          show (decide (Str.ofString "answer" = Str.ofString "answer") && (decide (decide ((sent.drop out).length ≠ room) = true) && true)) = true
          rw [decide_eq_true rfl, decide_eq_true (decide_eq_true e)]
          rfl]
        have e2 : stS room sent out (.send x k) = sent ++ [x] := if_neg e
        rw [e2] at h2 h3 q
        walk_at "gs"
        rename_i p1 H4 h4 p2 H5 h5 u4 H6 h6
        have em : (sent ++ [x]).map V.int = sent.map V.int ++ [V.int x] := List.map_append
        exact q u4 p2 [lstC p2 ((sent ++ [x]).map V.int)] H6 (.inl (.head _)) (by rw [em]; exact Hd.sb (A := tupC u4 [.ref p2, .int out] :: pipI C o room l out :: lstC l (((sent ++ [x]).drop out).map V.int) :: lstC p2 (sent.map V.int ++ [V.int x]) :: R) h6 (by walk_at "sbx"))
    | bad v k =>
      have mt : tupC t [V.str (Str.ofString "send"), v, V.int (k : Int)] ∈ R := mt
      have eO : nxtO (sent.drop out) out (.bad v k) = out := rfl
      rw [eO] at h2 q0
      walk_at "gs"
      rename_i u3 H3 h3
      refine g_alikeB (d1 := ansD room (sent.drop out) (.bad v k)) (d2 := .tuple [.str "answer", .bool true]) (ans_dn h3 (by walk_at "mem")) (Dn.tp (n := 1) h3 (.head _) (by simp) (.cons Dn.str (.cons Dn.bl .nil))) ?_
      rw [show alikeD (ansD room (sent.drop out) (.bad v k)) (.tuple [.str "answer", .bool true]) = false from by simp [ansD, alikeD, alikeL]]
      walk_at "gs"
      rename_i u4 H4 h4
      exact q0 u4 H4 rfl (Hd.sb h4 (by walk_at "sbx"))
    | recv =>
      have mt : tupC t [V.str (Str.ofString "receive")] ∈ R := mt
      cases ew : sent.drop out with
      | nil =>
        rw [ew] at h2 q0
        have eO : nxtO [] out .recv = out := rfl
        rw [eO] at h2 q0
        walk_at "gs"
        rename_i u4 H4 h4
        exact q0 u4 H4 rfl (Hd.sb h4 (by walk_at "sbx"))
      | cons x r =>
        rw [ew] at h2 q0
        have eO : nxtO (x :: r) out .recv = out + 1 := rfl
        rw [eO] at h2 q0
        walk_at "gs"
        rename_i u4 H4 h4
        rw [show (out : Int) + 1 = ((out + 1 : Nat) : Int) from rfl] at h4
        exact q0 u4 H4 rfl (Hd.sb h4 (by walk_at "sbx"))
end
end
end K45
set_option Elab.async false
set_option linter.all false
set_option maxRecDepth 100000
set_option maxHeartbeats 4000000
namespace K45
open PySem PySem.Spec PyProof.Rows L2 Wk
local macro_rules | `(tactic| walk_at "u1") => `(tactic| fail "no more")
local macro_rules | `(tactic| walk_at "pos") => `(tactic| first | assumption | omega | decide | (simp only [Int.ofNat_eq_natCast] at *; omega))
local macro_rules | `(tactic| walk_at "sz") => `(tactic| first
  | (simp only [List.length_cons, List.length_nil]; decide)
  | exact Evl.sz_of (by omega)
  | exact Evl.sz_lt (by omega)
  | exact Evl.sz_of (by simp only [List.length_map, List.length_append, List.length_cons, List.length_nil, List.length_replicate]; omega)
  | exact Evl.sz_lt (by simp only [List.length_map, List.length_append, List.length_cons, List.length_nil, List.length_replicate]; omega))
local macro_rules | `(tactic| walk_at "cond") => `(tactic| first
  | exact Or.inr ⟨by decide, by decide⟩
  | (show (0 : Int) < _; first | decide | assumption | omega)
  | exact Or.inl ⟨by omega, by omega⟩
  | exact Or.inr ⟨by omega, by omega⟩
  | exact ⟨by decide, by decide, by decide⟩
  | exact log2_lt (by omega) (by omega)
  | exact ⟨by omega, by omega⟩)
local macro_rules | `(tactic| walk_at "ty") => `(tactic| first
  | exact ty_int | exact ty_bl | exact ty_str | exact ty_non
  | exact ty_L (by assumption) | exact ty_T (by assumption)
  | exact ty_L (SqL.of (by assumption)) | exact ty_T (SqT.of (by assumption)))
local macro_rules | `(tactic| walk_at "kit") => `(tactic| first
  | exact k_ii | exact k_ib | exact k_is | exact k_il | exact k_it
  | exact k_bb | exact k_bi | exact k_bs | exact k_bl | exact k_bt
  | exact k_ss | exact k_sb | exact k_si | exact k_sl | exact k_st
  | exact k_ll | exact k_lb | exact k_li | exact k_ls | exact k_lt
  | exact k_tt | exact k_tb | exact k_ti | exact k_ts | exact k_tl
  | exact k_nn | exact k_ni | exact k_ns | exact k_nl | exact k_nt)
local macro_rules | `(tactic| walk_at "s1") => `(tactic| first
  | with_reducible refine w_seq ?_
  | with_reducible refine w_set ?_
  | with_reducible refine w_op ?_
  | ((with_reducible refine' w_var ?h1 ?_); (case h1 => rfl))
  | with_reducible refine w_c ?_
  | with_reducible refine w_cb ?_
  | with_reducible refine w_cons ?_
  | with_reducible refine w_nil ?_
  | with_reducible refine w_I0 ?_
  | ((with_reducible refine' w_I ?c1 ?_); case c1 => walk_at "cond")
  | with_reducible refine w_ret ?_
  | with_reducible refine w_next ?_
  | with_reducible refine w_ifS ?_
  | with_reducible refine w_test ?_
  | with_reducible refine w_tB ?_
  | with_reducible refine w_k ?_
  | with_reducible refine w_eqI ?_
  | with_reducible refine w_neI ?_
  | with_reducible refine w_eqS ?_
  | with_reducible refine w_neS ?_
  | with_reducible refine w_and ?_
  | with_reducible refine w_or ?_
  | with_reducible refine w_not ?_
  | with_reducible refine w_andV ?_
  | with_reducible refine w_orV ?_
  | with_reducible refine w_notV ?_
  | with_reducible refine w_ifE ?_
  | with_reducible refine w_true ?_
  | with_reducible refine w_false ?_
  | with_reducible refine w_ntrue ?_
  | with_reducible refine w_nfalse ?_
  | with_reducible refine w_call ?_
  | with_reducible refine c_int ?_
  | with_reducible refine c_abs ?_
  | with_reducible refine c_max ?_
  | with_reducible refine c_min ?_
  | with_reducible refine w_drop ?_
  | with_reducible refine w_sfld ?_
  | with_reducible refine w_meth ?_
  | with_reducible refine w_make ?_
  | with_reducible refine w_prop ?_
  | with_reducible refine w_callK ?_
  | with_reducible refine w_callN ?_
  | with_reducible refine w_star ?_
  | with_reducible refine w_gcons ?_
  | with_reducible refine w_gname ?_
  | with_reducible refine w_gnil ?_
  | with_reducible refine w_retN ?_
  | with_reducible refine w_tup ?_
  | with_reducible refine w_lst ?_
  | with_reducible refine w_fld ?_
  | with_reducible refine w_bm ?_
  | with_reducible refine w_bm0 ?_
  | with_reducible refine w_forL ?_
  | with_reducible refine w_forT ?_
  | with_reducible refine w_forS ?_
  | with_reducible refine w_forR ?_
  | with_reducible refine w_lcR ?_
  | with_reducible refine w_lcL ?_
  | with_reducible refine w_lcT ?_
  | with_reducible refine w_isN ?_
  | with_reducible refine w_notN ?_
  | with_reducible refine w_asg ?_
  | with_reducible refine w_gsub ?_
  | ((with_reducible refine' w_aug ?h1 ?_); (case h1 => rfl))
  | with_reducible refine w_augS ?_
  | with_reducible refine w_ipI ?_
  | with_reducible refine w_un ?_
  | with_reducible refine w_U ?_
  | ((with_reducible refine' w_iteF ?f1 ?_); case f1 => (first | (intro h; cases h; done) | decide))
  | ((with_reducible refine' w_iteT ?f1 ?_); case f1 => rfl)
  | ((with_reducible refine' w_iteNF ?f1 ?_); case f1 => rfl)
  | ((with_reducible refine' w_iteNT ?f1 ?_); case f1 => (first | (intro h; cases h; done) | decide))
  | ((with_reducible refine' c_isi ?t1 ?k1 ?_); (case t1 => walk_at "ty"); (case k1 => walk_at "kit"))
  | ((with_reducible refine' w_eq ?e1 ?_); case e1 => rfl)
  | ((with_reducible refine' w_ne ?e1 ?_); case e1 => rfl)
  | walk_at "u1")
local macro_rules | `(tactic| walk_at "s") => `(tactic| repeat walk_at "s1")
local macro_rules | `(tactic| walk_at "mem") => `(tactic| first | with_reducible exact List.mem_cons_self .. | ((with_reducible refine' List.mem_cons_of_mem _ ?q); (case q => walk_at "mem")) | assumption | ((with_reducible refine' List.mem_append_right _ ?q); (case q => walk_at "mem")) | (exact List.mem_append_left _ (by assumption)))
local macro_rules | `(tactic| walk_at "pk") => `(tactic| first | with_reducible exact Pk.here | ((with_reducible refine' Pk.there ?q); (case q => walk_at "pk")) | ((with_reducible refine' Pk.app ?q); (case q => walk_at "pk")))
local macro_rules | `(tactic| walk_at "pkb") => `(tactic| first | with_reducible exact PkB.here | ((with_reducible refine' PkB.there ?q); (case q => walk_at "pkb")) | ((with_reducible refine' PkB.app ?q); (case q => walk_at "pkb")))
local macro_rules | `(tactic| walk_at "spl") => `(tactic| first | with_reducible exact Spl.nil | ((with_reducible refine' Spl.cons ?h ?t); (case h => walk_at "pk"); (case t => walk_at "spl")) | ((with_reducible refine' Spl.blk ?h ?t); (case h => walk_at "pkb"); (case t => walk_at "spl")))
local macro_rules | `(tactic| walk_at "sbx") => `(tactic| first | with_reducible exact Sb.refl | with_reducible exact Sb.nil | with_reducible exact Sb.left | ((with_reducible refine' Sb.cons ?h ?t); (case h => walk_at "pk"); (case t => walk_at "sbx")) | ((with_reducible refine' Sb.blk ?h ?t); (case h => walk_at "pkb"); (case t => walk_at "sbx")) | ((with_reducible refine' Sb.drop ?q); (case q => walk_at "sbx")) | ((with_reducible refine' Sb.right ?q); (case q => walk_at "sbx")))
local macro_rules | `(tactic| walk_at "hd") => `(tactic| first | assumption | exact Hd.sb (by assumption) (by walk_at "sbx"))
local macro_rules | `(tactic| walk_at "sq") => `(tactic| first
  | assumption
  | exact Hd.sqL (by assumption) (by walk_at "mem")
  | exact Hd.sqT (by assumption) (by walk_at "mem")
  | exact Hd.sqF (by assumption) (by walk_at "mem")
  | (refine .inl ?_; walk_at "sq")
  | (refine .inr ?_; walk_at "sq"))
local macro_rules | `(tactic| walk_at "at") => `(tactic| first | rfl | assumption | exact atI_nat (by assumption))
local macro_rules | `(tactic| walk_at "dn1") => `(tactic| first
  | exact Dn.int | exact Dn.str | exact Dn.non | exact Dn.bl | assumption
  | ((refine' Dn.tp ?a1 ?m1 ?l1 ?p1); (case a1 => assumption); (case m1 => walk_at "mem"); (case l1 => (simp only [List.length_cons, List.length_nil]; omega)); (case p1 => walk_at "dns"))
  | ((refine' Dn.lt ?a1 ?m1 ?l1 ?p1); (case a1 => assumption); (case m1 => walk_at "mem"); (case l1 => (simp only [List.length_cons, List.length_nil]; omega)); (case p1 => walk_at "dns")))
local macro_rules | `(tactic| walk_at "dns") => `(tactic| first | exact Paired.nil | exact Dn.ints | ((refine' Paired.cons ?a1 ?b1); (case a1 => walk_at "dn1"); (case b1 => walk_at "dns")))
local macro_rules | `(tactic| walk_at "g1") => `(tactic| first
  | ((with_reducible refine' g_ixI ?h1 ?h2 ?h3 ?_); (case h1 => assumption); (case h2 => walk_at "mem"); (case h3 => omega); intro z hz)
  | ((with_reducible refine' g_ixIT ?h1 ?h2 ?h3 ?_); (case h1 => assumption); (case h2 => walk_at "mem"); (case h3 => omega); intro z hz)
  | ((with_reducible refine' g_setI ?h1 ?h2 ?h3 ?_); (case h1 => assumption); (case h2 => walk_at "pk"); (case h3 => omega); intro H2 hh2)
  | ((with_reducible refine' w_ixL ?h1 ?h2 ?_); (case h1 => walk_at "sq"); (case h2 => walk_at "at"))
  | ((with_reducible refine' w_ixT ?h1 ?h2 ?_); (case h1 => walk_at "sq"); (case h2 => walk_at "at"))
  | ((with_reducible refine' w_ixAny ?h1 ?h2 ?_); (case h1 => walk_at "sq"); (case h2 => walk_at "at"))
  | ((with_reducible refine' c_lenA ?h1 ?_); (case h1 => walk_at "sq"))
  | ((with_reducible refine' c_isi ?t1 ?k1 ?_); (case t1 => first | exact ty_T (by walk_at "sq") | exact ty_L (by walk_at "sq")); (case k1 => walk_at "kit"))
  | ((with_reducible refine' g_lst ?h1 ?h2 ?_); (case h1 => assumption); (case h2 => walk_at "sz"); intro p H2 hh2)
  | ((with_reducible refine' g_tup ?h1 ?h2 ?_); (case h1 => assumption); (case h2 => walk_at "sz"); intro p H2 hh2)
  | ((with_reducible refine' g_dict ?h1 ?_); (case h1 => assumption); intro p H2 hh2)
  | ((with_reducible refine' g_listL ?h1 ?h2 ?_); (case h1 => assumption); (case h2 => walk_at "sq"); intro p H2 hh2)
  | ((with_reducible refine' g_listT ?h1 ?h2 ?_); (case h1 => assumption); (case h2 => walk_at "sq"); intro p H2 hh2)
  | ((with_reducible refine' g_tupL ?h1 ?h2 ?_); (case h1 => assumption); (case h2 => walk_at "sq"); intro p H2 hh2)
  | ((with_reducible refine' g_set ?h1 ?h2 ?h3 ?_); (case h1 => assumption); (case h2 => walk_at "pk"); (case h3 => first | rfl | assumption | exact Evl.ixN_nat (by first | omega | (simp only [List.length_cons, List.length_nil]; omega))); intro H2 hh2)
  | ((with_reducible refine' g_kbm ?h1 ?h2 ?_); (case h1 => assumption); (case h2 => walk_at "mem"))
  | ((with_reducible refine' g_kbm0 ?h1 ?h2 ?_); (case h1 => assumption); (case h2 => walk_at "mem"))
  | ((with_reducible refine' g_app ?h1 ?h2 ?h3 ?_); (case h1 => assumption); (case h2 => walk_at "pk"); (case h3 => walk_at "sz"); intro H2 hh2)
  | ((with_reducible refine' g_kapp ?h1 ?h2 ?h3 ?_); (case h1 => assumption); (case h2 => walk_at "pk"); (case h3 => walk_at "sz"); intro H2 hh2)
  | ((with_reducible refine' g_fld ?h1 ?h2 ?h3 ?h4 ?h5 ?_); (case h1 => assumption); (case h2 => walk_at "mem"); (case h3 => assumption); (case h4 => assumption); (case h5 => rfl))
  | ((with_reducible refine' g_sfld ?h1 ?h2 ?h3 ?h4 ?h5 ?_); (case h1 => assumption); (case h2 => walk_at "pk"); (case h3 => assumption); (case h4 => assumption); (case h5 => decide); intro H2 hh2)
  | ((with_reducible refine' g_meth ?h1 ?h2 ?h3 ?_); (case h1 => assumption); (case h2 => walk_at "mem"); (case h3 => rfl))
  | ((with_reducible refine' g_prop ?h1 ?h2 ?_); (case h1 => assumption); (case h2 => walk_at "mem"))
  | ((with_reducible refine' g_make ?h1 ?_); (case h1 => assumption); intro x H2 hh2)
  | ((with_reducible refine' g_cat ?h1 ?h2 ?h3 ?h4 ?_); (case h1 => assumption); (case h2 => walk_at "mem"); (case h3 => walk_at "mem"); (case h4 => walk_at "sz"); intro p H2 hh2)
  | ((with_reducible refine' g_inT ?h1 ?h2 ?h3 ?h4 ?h5 ?_); (case h1 => assumption); (case h2 => walk_at "mem"); (case h3 => rfl); (case h4 => rfl); (case h5 => rfl)))
local macro_rules | `(tactic| walk_at "gs") => `(tactic| repeat first | walk_at "s1" | walk_at "g1")
local macro_rules | `(tactic| walk_at "ite") => `(tactic| first
  | ((with_reducible refine' w_iteT ?h1 ?_); (case h1 => omega))
  | ((with_reducible refine' w_iteF ?h1 ?_); (case h1 => omega))
  | (with_reducible refine w_ite ?_ ?_ <;> intro hq)
  | ((with_reducible refine' w_iteNT ?h1 ?_); (case h1 => omega))
  | ((with_reducible refine' w_iteNF ?h1 ?_); (case h1 => omega))
  | (with_reducible refine w_iteN ?_ ?_ <;> intro hq))
local macro_rules | `(tactic| walk_at "go") => `(tactic| repeat' first | walk_at "s1" | walk_at "g1" | walk_at "ite")
local macro_rules | `(tactic| walk_at "g1") => `(tactic| first
  | ((with_reducible refine' g_take1 ?h1 ?h2 ?h3 ?h4 ?_); (case h1 => assumption); (case h2 => walk_at "spl"); (case h3 => omega); (case h4 => omega); intro k H2 hk1 hh2)
  | ((with_reducible refine' g_take ?h1 ?h2 ?h4 ?_); (case h1 => assumption); (case h2 => walk_at "spl"); (case h4 => omega); intro k H2 hk1 hh2)
  | ((with_reducible refine' g_betweenN ?h1 ?h2 ?h5 ?h3 ?h4 ?_); (case h1 => assumption); (case h2 => walk_at "spl"); (case h5 => omega); (case h3 => omega); (case h4 => omega); intro k H2 hk1 hk2 hh2)
  | ((with_reducible refine' g_between ?h1 ?h2 ?h3 ?h4 ?_); (case h1 => assumption); (case h2 => walk_at "spl"); (case h3 => omega); (case h4 => omega); intro k H2 hk1 hk2 hh2)
  | ((with_reducible refine' g_size ?h1 ?h2 ?h3 ?h4 ?_); (case h1 => assumption); (case h2 => walk_at "spl"); (case h3 => omega); (case h4 => omega); intro k H2 hk1 hh2)
  | ((with_reducible refine' g_word ?h1 ?h2 ?_); (case h1 => assumption); (case h2 => walk_at "spl"); intro k H2 hk1 hh2))
section
variable {P : Program} {w : World} {K : PySem.W.Frag} {mg : Str → Option Value} {base : Heap} {aREG aOPS : Addr}
section
variable {C CE W fI fE : Addr} {fdE : FuncData}
/-- Pipe(v), v no room -/
def sp_pipIX (K : PySem.W.Frag) (C CE : Addr) : Sp := fun vs H Q E => ∃ (o : Addr) (v : V) (R : List Cell), vs = [.ref o, v] ∧ isR v 1 16 = false ∧ (∀ H', Hd H' R → ∃ t, KH K H' v t) ∧ Hd H (insC o C [] :: R) ∧ ∀ H' d, New H H' d (.xd [("name", .str "room")]) → E (.ref CE) (some d) H'
theorem x_pipI {f : Addr} {fd : FuncData} (T : Txt K mg aREG aOPS) (F : PiF K f fd) (M : Mk K C f) (hm : mg "Pipe" = some (.ref C)) (cr : CalN P w K mg base 3 "ask_range" (sp_askX K CE)) : MakN P w K mg base 4 "Pipe" C (sp_pipIX K C CE) := by
  obtain ⟨ds, r, b⟩ := F.binds1 (ps := ["self", "room"]) 2 1 (by simp) rfl fun T kV doc pm an cdv ct us its h1 h2 => match us, its, h1, h2 with | [_, _], [_], _, _ => ⟨_, rfl, rfl⟩
  cases r
  refine ⟨f, fd, ["self", "room"], M, F.ok sc_Pipe____init__ (fun vs H Q E h => ?_) (fun cdv A outer s H vs Q E hr h => ?_), hm, b⟩
  · obtain ⟨o, v, R, rfl, _⟩ := h
    rfl
  · obtain ⟨o, v, R, rfl, hb, kh, hh, q⟩ := h
    obtain ⟨t, kh⟩ := kh H hh.tail
    have tk := L2N.takes_of (X := cxOf (L2N.CX P w) P w K mg base nm_Pipe____init__ "Pipe.__init__" (defScope s_Pipe____init__) f cdv A outer s H E) (E := E) rfl rfl rfl rfl
    refine ⟨_, pss_cons (ps_expr (pe_cN cr hr (by decide) tk rfl (pa_cons pe_str (pa_cons (pv 1) (pa_cons pe_int (pa_cons pe_int pa_nil)))))) pss_never, ?_⟩
    walk_at "s"
    unfold tCallS
    walk_at "s"
    exact ⟨"room", v, t, 1, 16, rfl, by decide +kernel, kh, hb, fun H' d n => q H' d n⟩
theorem w_makS {C : Addr} {sp : Sp} {E : L2.St → XK} {t : TA} {σ : L2.St} {H : Hp} {Q : VK} (h : t σ H fun vs H1 => ∀ x dx, H1 x = none → H1 dx = none → dx ≠ x → sp (.ref x :: vs) (upd (upd H1 dx (.own x)) x (.ins C dx [])) (fun v H2 => v = .non ∧ Q (.ref x) H2) (E σ)) : tMakeS C sp E t σ H Q := h
theorem dp_two {K : PySem.W.Frag} {H : Hp} {t : Addr} {a b : Str} (h : SqT K H t [.str a, .str b]) : Dp K H (.ref t) (.tuple [.str a, .str b]) := .tup h (.cons (.str _) (.cons (.str _) .nil))
def sp_refs (K : PySem.W.Frag) : Sp := fun vs H Q _ => ∃ (v : V) (R : List Cell), vs = [v] ∧ isR v 1 16 = false ∧ (∀ H', Hd H' R → ∃ t, KH K H' v t) ∧ Hd H R ∧ ∀ H', Hd H' R → Q (.bl true) H'
theorem c_refuses (T : Txt K mg aREG aOPS) (R : ErrC K mg CE W fI) (d : DefAt K mg "_law_refuses" s__law_refuses) (cx_Pipe : MakN P w K mg base 4 "Pipe" C (sp_pipIX K C CE))
    (F_err : FnE P w K mg base C8.CX0 1 fE fdE ["e"] (sp_err CE)) (F_errM : mg "_law_refusal" = some (.ref fE)) (F_errK : PySem.W.keepIn K (.ref fE) = true) (F_errB : Binds K fdE ["e"] []) : C8.Cal P w K mg base 6 "_law_refuses" (sp_refs K) [] := by
  refine mk d sc__law_refuses (fun _ _ _ _ _ _ us hl => match us, hl with | [_], _ => rfl) (fun vs H Q E h => ?_) (fun f cdv A outer s H vs Q E hr h => ?_)
  · obtain ⟨v, R0, rfl, _⟩ := h
    rfl
  · obtain ⟨v, R0, rfl, hb, kh, hh, q⟩ := h
    refine ⟨_, (pss_cons (L2N.ps_try_as rfl rfl sc__law_refuses.nd (i := 1) rfl rfl ⟨rfl, by decide, .inl R.g_W⟩ takes0N (fun W pn xe tk pw => (pss_one (ps_expr (Wk.pe_mkN cx_Pipe hr (by first | decide | omega) tk rfl (pa_cons (pv 0) pa_nil))))) (fun a oe cls d pn hz hf => pss_one (ps_ret (pe_cmpR (show OpR _ (compareOp .Eq) (rEqD K) from op_eqD hr.units) (pe_callE (E := fun _ => C8.E0) (imp_err hz hf) F_err (rH hr) (hot_err hz hf) (List.mem_cons_self ..) rfl F_errM F_errK F_errB (fun _ _ _ _ _ _ _ h => h.elim) (pa_cons (pv 1) pa_nil)) (pe_tup (pa_cons pe_str (pa_cons pe_str pa_nil))) (nomark _)))))
  (pss_one (ps_ret pe_bl))), ?_⟩
    walk_at "gs"
    refine w_makS ?_
    walk_at "gs"
    intro x dx hx hdx hne
    have u : Upt [] H (upd (upd H dx (.own x)) x (.ins C dx [])) := fun b o _ e => by rw [upd_ne (ne_of_none e hx), upd_ne (ne_of_none e hdx)]; exact e
    have h2 : Hd (upd (upd H dx (.own x)) x (.ins C dx [])) (insC x C [] :: R0) := hh.new (H2 := upd (upd H dx (.own x)) x (.ins C dx [])) (p := x) (o := .ins C dx []) (P := fun o => ∃ dx, o = .ins C dx []) ⟨hx, upd_same, u⟩ ⟨dx, rfl⟩
    refine ⟨x, v, R0, rfl, hb, kh, h2, fun H' d nd => ⟨true, R.exW, fun _ ea hea => ?_, fun z => nomatch z⟩⟩
    have h3 : Hd H' R0 := (h2.upt0 nd.keep).tail
    have nda := nd.at_
    clear h2 u hh nd
    generalize upd (upd H dx (.own x)) x (.ins C dx []) = Hx at *
    walk_at "gs"
    refine w_callS ?_
    walk_at "gs"
    refine ⟨d, "room", rfl, rfl, rfl, nda, fun t2 H3 u ht e' => ?_⟩
    have h4 := new_tup' h3 u ht e'
    walk_at "gs"
    rename_i t5 H5 h5
    refine ⟨_, _, dp_two (h5.sqT (.tail _ (.head _))), dp_two (h5.sqT (.head _)), by decide +kernel, by decide +kernel, ?_⟩
    rw [show PyData.eqv (.tuple [.str "BadArgument", .str "room"]) (.tuple [.str "BadArgument", .str "room"]) = true by decide +kernel]
    exact q H5 h5.tail.tail
end
end
end K45
set_option Elab.async false
set_option linter.all false
set_option maxRecDepth 100000
set_option maxHeartbeats 4000000
namespace K45
open PySem PySem.Spec PyProof.Rows L2 Wk
local macro_rules | `(tactic| walk_at "u1") => `(tactic| fail "no more")
local macro_rules | `(tactic| walk_at "pos") => `(tactic| first | assumption | omega | decide | (simp only [Int.ofNat_eq_natCast] at *; omega))
local macro_rules | `(tactic| walk_at "sz") => `(tactic| first
  | (simp only [List.length_cons, List.length_nil]; decide)
  | exact Evl.sz_of (by omega)
  | exact Evl.sz_lt (by omega)
  | exact Evl.sz_of (by simp only [List.length_map, List.length_append, List.length_cons, List.length_nil, List.length_replicate]; omega)
  | exact Evl.sz_lt (by simp only [List.length_map, List.length_append, List.length_cons, List.length_nil, List.length_replicate]; omega))
local macro_rules | `(tactic| walk_at "cond") => `(tactic| first
  | exact Or.inr ⟨by decide, by decide⟩
  | (show (0 : Int) < _; first | decide | assumption | omega)
  | exact Or.inl ⟨by omega, by omega⟩
  | exact Or.inr ⟨by omega, by omega⟩
  | exact ⟨by decide, by decide, by decide⟩
  | exact log2_lt (by omega) (by omega)
  | exact ⟨by omega, by omega⟩)
local macro_rules | `(tactic| walk_at "ty") => `(tactic| first
  | exact ty_int | exact ty_bl | exact ty_str | exact ty_non
  | exact ty_L (by assumption) | exact ty_T (by assumption)
  | exact ty_L (SqL.of (by assumption)) | exact ty_T (SqT.of (by assumption)))
local macro_rules | `(tactic| walk_at "kit") => `(tactic| first
  | exact k_ii | exact k_ib | exact k_is | exact k_il | exact k_it
  | exact k_bb | exact k_bi | exact k_bs | exact k_bl | exact k_bt
  | exact k_ss | exact k_sb | exact k_si | exact k_sl | exact k_st
  | exact k_ll | exact k_lb | exact k_li | exact k_ls | exact k_lt
  | exact k_tt | exact k_tb | exact k_ti | exact k_ts | exact k_tl
  | exact k_nn | exact k_ni | exact k_ns | exact k_nl | exact k_nt)
local macro_rules | `(tactic| walk_at "s1") => `(tactic| first
  | with_reducible refine w_seq ?_
  | with_reducible refine w_set ?_
  | with_reducible refine w_op ?_
  | ((with_reducible refine' w_var ?h1 ?_); (case h1 => rfl))
  | with_reducible refine w_c ?_
  | with_reducible refine w_cb ?_
  | with_reducible refine w_cons ?_
  | with_reducible refine w_nil ?_
  | with_reducible refine w_I0 ?_
  | ((with_reducible refine' w_I ?c1 ?_); case c1 => walk_at "cond")
  | with_reducible refine w_ret ?_
  | with_reducible refine w_next ?_
  | with_reducible refine w_ifS ?_
  | with_reducible refine w_test ?_
  | with_reducible refine w_tB ?_
  | with_reducible refine w_k ?_
  | with_reducible refine w_eqI ?_
  | with_reducible refine w_neI ?_
  | with_reducible refine w_eqS ?_
  | with_reducible refine w_neS ?_
  | with_reducible refine w_and ?_
  | with_reducible refine w_or ?_
  | with_reducible refine w_not ?_
  | with_reducible refine w_andV ?_
  | with_reducible refine w_orV ?_
  | with_reducible refine w_notV ?_
  | with_reducible refine w_ifE ?_
  | with_reducible refine w_true ?_
  | with_reducible refine w_false ?_
  | with_reducible refine w_ntrue ?_
  | with_reducible refine w_nfalse ?_
  | with_reducible refine w_call ?_
  | with_reducible refine c_int ?_
  | with_reducible refine c_abs ?_
  | with_reducible refine c_max ?_
  | with_reducible refine c_min ?_
  | with_reducible refine w_drop ?_
  | with_reducible refine w_sfld ?_
  | with_reducible refine w_meth ?_
  | with_reducible refine w_make ?_
  | with_reducible refine w_prop ?_
  | with_reducible refine w_callK ?_
  | with_reducible refine w_callN ?_
  | with_reducible refine w_star ?_
  | with_reducible refine w_gcons ?_
  | with_reducible refine w_gname ?_
  | with_reducible refine w_gnil ?_
  | with_reducible refine w_retN ?_
  | with_reducible refine w_tup ?_
  | with_reducible refine w_lst ?_
  | with_reducible refine w_fld ?_
  | with_reducible refine w_bm ?_
  | with_reducible refine w_bm0 ?_
  | with_reducible refine w_forL ?_
  | with_reducible refine w_forT ?_
  | with_reducible refine w_forS ?_
  | with_reducible refine w_forR ?_
  | with_reducible refine w_lcR ?_
  | with_reducible refine w_lcL ?_
  | with_reducible refine w_lcT ?_
  | with_reducible refine w_isN ?_
  | with_reducible refine w_notN ?_
  | with_reducible refine w_asg ?_
  | with_reducible refine w_gsub ?_
  | ((with_reducible refine' w_aug ?h1 ?_); (case h1 => rfl))
  | with_reducible refine w_augS ?_
  | with_reducible refine w_ipI ?_
  | with_reducible refine w_un ?_
  | with_reducible refine w_U ?_
  | ((with_reducible refine' w_iteF ?f1 ?_); case f1 => (first | (intro h; cases h; done) | decide))
  | ((with_reducible refine' w_iteT ?f1 ?_); case f1 => rfl)
  | ((with_reducible refine' w_iteNF ?f1 ?_); case f1 => rfl)
  | ((with_reducible refine' w_iteNT ?f1 ?_); case f1 => (first | (intro h; cases h; done) | decide))
  | ((with_reducible refine' c_isi ?t1 ?k1 ?_); (case t1 => walk_at "ty"); (case k1 => walk_at "kit"))
  | ((with_reducible refine' w_eq ?e1 ?_); case e1 => rfl)
  | ((with_reducible refine' w_ne ?e1 ?_); case e1 => rfl)
  | walk_at "u1")
local macro_rules | `(tactic| walk_at "s") => `(tactic| repeat walk_at "s1")
local macro_rules | `(tactic| walk_at "mem") => `(tactic| first | with_reducible exact List.mem_cons_self .. | ((with_reducible refine' List.mem_cons_of_mem _ ?q); (case q => walk_at "mem")) | assumption | ((with_reducible refine' List.mem_append_right _ ?q); (case q => walk_at "mem")) | (exact List.mem_append_left _ (by assumption)))
local macro_rules | `(tactic| walk_at "pk") => `(tactic| first | with_reducible exact Pk.here | ((with_reducible refine' Pk.there ?q); (case q => walk_at "pk")) | ((with_reducible refine' Pk.app ?q); (case q => walk_at "pk")))
local macro_rules | `(tactic| walk_at "pkb") => `(tactic| first | with_reducible exact PkB.here | ((with_reducible refine' PkB.there ?q); (case q => walk_at "pkb")) | ((with_reducible refine' PkB.app ?q); (case q => walk_at "pkb")))
local macro_rules | `(tactic| walk_at "spl") => `(tactic| first | with_reducible exact Spl.nil | ((with_reducible refine' Spl.cons ?h ?t); (case h => walk_at "pk"); (case t => walk_at "spl")) | ((with_reducible refine' Spl.blk ?h ?t); (case h => walk_at "pkb"); (case t => walk_at "spl")))
local macro_rules | `(tactic| walk_at "sbx") => `(tactic| first | with_reducible exact Sb.refl | with_reducible exact Sb.nil | with_reducible exact Sb.left | ((with_reducible refine' Sb.cons ?h ?t); (case h => walk_at "pk"); (case t => walk_at "sbx")) | ((with_reducible refine' Sb.blk ?h ?t); (case h => walk_at "pkb"); (case t => walk_at "sbx")) | ((with_reducible refine' Sb.drop ?q); (case q => walk_at "sbx")) | ((with_reducible refine' Sb.right ?q); (case q => walk_at "sbx")))
local macro_rules | `(tactic| walk_at "hd") => `(tactic| first | assumption | exact Hd.sb (by assumption) (by walk_at "sbx"))
local macro_rules | `(tactic| walk_at "sq") => `(tactic| first
  | assumption
  | exact Hd.sqL (by assumption) (by walk_at "mem")
  | exact Hd.sqT (by assumption) (by walk_at "mem")
  | exact Hd.sqF (by assumption) (by walk_at "mem")
  | (refine .inl ?_; walk_at "sq")
  | (refine .inr ?_; walk_at "sq"))
local macro_rules | `(tactic| walk_at "at") => `(tactic| first | rfl | assumption | exact atI_nat (by assumption))
local macro_rules | `(tactic| walk_at "dn1") => `(tactic| first
  | exact Dn.int | exact Dn.str | exact Dn.non | exact Dn.bl | assumption
  | ((refine' Dn.tp ?a1 ?m1 ?l1 ?p1); (case a1 => assumption); (case m1 => walk_at "mem"); (case l1 => (simp only [List.length_cons, List.length_nil]; omega)); (case p1 => walk_at "dns"))
  | ((refine' Dn.lt ?a1 ?m1 ?l1 ?p1); (case a1 => assumption); (case m1 => walk_at "mem"); (case l1 => (simp only [List.length_cons, List.length_nil]; omega)); (case p1 => walk_at "dns")))
local macro_rules | `(tactic| walk_at "dns") => `(tactic| first | exact Paired.nil | exact Dn.ints | ((refine' Paired.cons ?a1 ?b1); (case a1 => walk_at "dn1"); (case b1 => walk_at "dns")))
local macro_rules | `(tactic| walk_at "g1") => `(tactic| first
  | ((with_reducible refine' g_ixI ?h1 ?h2 ?h3 ?_); (case h1 => assumption); (case h2 => walk_at "mem"); (case h3 => omega); intro z hz)
  | ((with_reducible refine' g_ixIT ?h1 ?h2 ?h3 ?_); (case h1 => assumption); (case h2 => walk_at "mem"); (case h3 => omega); intro z hz)
  | ((with_reducible refine' g_setI ?h1 ?h2 ?h3 ?_); (case h1 => assumption); (case h2 => walk_at "pk"); (case h3 => omega); intro H2 hh2)
  | ((with_reducible refine' w_ixL ?h1 ?h2 ?_); (case h1 => walk_at "sq"); (case h2 => walk_at "at"))
  | ((with_reducible refine' w_ixT ?h1 ?h2 ?_); (case h1 => walk_at "sq"); (case h2 => walk_at "at"))
  | ((with_reducible refine' w_ixAny ?h1 ?h2 ?_); (case h1 => walk_at "sq"); (case h2 => walk_at "at"))
  | ((with_reducible refine' c_lenA ?h1 ?_); (case h1 => walk_at "sq"))
  | ((with_reducible refine' c_isi ?t1 ?k1 ?_); (case t1 => first | exact ty_T (by walk_at "sq") | exact ty_L (by walk_at "sq")); (case k1 => walk_at "kit"))
  | ((with_reducible refine' g_lst ?h1 ?h2 ?_); (case h1 => assumption); (case h2 => walk_at "sz"); intro p H2 hh2)
  | ((with_reducible refine' g_tup ?h1 ?h2 ?_); (case h1 => assumption); (case h2 => walk_at "sz"); intro p H2 hh2)
  | ((with_reducible refine' g_dict ?h1 ?_); (case h1 => assumption); intro p H2 hh2)
  | ((with_reducible refine' g_listL ?h1 ?h2 ?_); (case h1 => assumption); (case h2 => walk_at "sq"); intro p H2 hh2)
  | ((with_reducible refine' g_listT ?h1 ?h2 ?_); (case h1 => assumption); (case h2 => walk_at "sq"); intro p H2 hh2)
  | ((with_reducible refine' g_tupL ?h1 ?h2 ?_); (case h1 => assumption); (case h2 => walk_at "sq"); intro p H2 hh2)
  | ((with_reducible refine' g_set ?h1 ?h2 ?h3 ?_); (case h1 => assumption); (case h2 => walk_at "pk"); (case h3 => first | rfl | assumption | exact Evl.ixN_nat (by first | omega | (simp only [List.length_cons, List.length_nil]; omega))); intro H2 hh2)
  | ((with_reducible refine' g_kbm ?h1 ?h2 ?_); (case h1 => assumption); (case h2 => walk_at "mem"))
  | ((with_reducible refine' g_kbm0 ?h1 ?h2 ?_); (case h1 => assumption); (case h2 => walk_at "mem"))
  | ((with_reducible refine' g_app ?h1 ?h2 ?h3 ?_); (case h1 => assumption); (case h2 => walk_at "pk"); (case h3 => walk_at "sz"); intro H2 hh2)
  | ((with_reducible refine' g_kapp ?h1 ?h2 ?h3 ?_); (case h1 => assumption); (case h2 => walk_at "pk"); (case h3 => walk_at "sz"); intro H2 hh2)
  | ((with_reducible refine' g_fld ?h1 ?h2 ?h3 ?h4 ?h5 ?_); (case h1 => assumption); (case h2 => walk_at "mem"); (case h3 => assumption); (case h4 => assumption); (case h5 => rfl))
  | ((with_reducible refine' g_sfld ?h1 ?h2 ?h3 ?h4 ?h5 ?_); (case h1 => assumption); (case h2 => walk_at "pk"); (case h3 => assumption); (case h4 => assumption); (case h5 => decide); intro H2 hh2)
  | ((with_reducible refine' g_meth ?h1 ?h2 ?h3 ?_); (case h1 => assumption); (case h2 => walk_at "mem"); (case h3 => rfl))
  | ((with_reducible refine' g_prop ?h1 ?h2 ?_); (case h1 => assumption); (case h2 => walk_at "mem"))
  | ((with_reducible refine' g_make ?h1 ?_); (case h1 => assumption); intro x H2 hh2)
  | ((with_reducible refine' g_cat ?h1 ?h2 ?h3 ?h4 ?_); (case h1 => assumption); (case h2 => walk_at "mem"); (case h3 => walk_at "mem"); (case h4 => walk_at "sz"); intro p H2 hh2)
  | ((with_reducible refine' g_inT ?h1 ?h2 ?h3 ?h4 ?h5 ?_); (case h1 => assumption); (case h2 => walk_at "mem"); (case h3 => rfl); (case h4 => rfl); (case h5 => rfl)))
local macro_rules | `(tactic| walk_at "gs") => `(tactic| repeat first | walk_at "s1" | walk_at "g1")
local macro_rules | `(tactic| walk_at "ite") => `(tactic| first
  | ((with_reducible refine' w_iteT ?h1 ?_); (case h1 => omega))
  | ((with_reducible refine' w_iteF ?h1 ?_); (case h1 => omega))
  | (with_reducible refine w_ite ?_ ?_ <;> intro hq)
  | ((with_reducible refine' w_iteNT ?h1 ?_); (case h1 => omega))
  | ((with_reducible refine' w_iteNF ?h1 ?_); (case h1 => omega))
  | (with_reducible refine w_iteN ?_ ?_ <;> intro hq))
local macro_rules | `(tactic| walk_at "go") => `(tactic| repeat' first | walk_at "s1" | walk_at "g1" | walk_at "ite")
local macro_rules | `(tactic| walk_at "g1") => `(tactic| first
  | ((with_reducible refine' g_take1 ?h1 ?h2 ?h3 ?h4 ?_); (case h1 => assumption); (case h2 => walk_at "spl"); (case h3 => omega); (case h4 => omega); intro k H2 hk1 hh2)
  | ((with_reducible refine' g_take ?h1 ?h2 ?h4 ?_); (case h1 => assumption); (case h2 => walk_at "spl"); (case h4 => omega); intro k H2 hk1 hh2)
  | ((with_reducible refine' g_betweenN ?h1 ?h2 ?h5 ?h3 ?h4 ?_); (case h1 => assumption); (case h2 => walk_at "spl"); (case h5 => omega); (case h3 => omega); (case h4 => omega); intro k H2 hk1 hk2 hh2)
  | ((with_reducible refine' g_between ?h1 ?h2 ?h3 ?h4 ?_); (case h1 => assumption); (case h2 => walk_at "spl"); (case h3 => omega); (case h4 => omega); intro k H2 hk1 hk2 hh2)
  | ((with_reducible refine' g_size ?h1 ?h2 ?h3 ?h4 ?_); (case h1 => assumption); (case h2 => walk_at "spl"); (case h3 => omega); (case h4 => omega); intro k H2 hk1 hh2)
  | ((with_reducible refine' g_word ?h1 ?h2 ?_); (case h1 => assumption); (case h2 => walk_at "spl"); intro k H2 hk1 hh2))
local macro_rules | `(tactic| walk_at "g1") => `(tactic| first | with_reducible refine w_sl ?_ | with_reducible refine w_part ?_ | with_reducible refine w_noPart ?_ | with_reducible refine w_exI ?_)
section
variable {P : Program} {w : World} {K : PySem.W.Frag} {mg : Str → Option Value} {base : Heap} {aREG aOPS : Addr}
section
variable {C : Addr}
/-- the pair (what was sent, how many came out) -/
def Two (R : List Cell) (f sl : Addr) (s : List Int) (out room N : Nat) : Prop := tupC f [V.ref sl, V.int out] ∈ R ∧ lstC sl (s.map V.int) ∈ R ∧ out ≤ s.length ∧ (s.drop out).length ≤ room ∧ s.length ≤ N
theorem Two.up {R R' : List Cell} {f sl : Addr} {s : List Int} {out room N N' : Nat} (h : Two R f sl s out room N) (sb : ∀ x ∈ R, x ∈ R') (hn : N ≤ N') : Two R' f sl s out room N' := ⟨sb _ h.1, sb _ h.2.1, h.2.2.1, h.2.2.2.1, Nat.le_trans h.2.2.2.2 hn⟩
theorem hdMade {x dx : Addr} {L : List Cell} {H : Hp} (hh : Hd H L) (hx : H x = none) (hdx : H dx = none) : Hd (upd (upd H dx (.own x)) x (.ins C dx [])) (insC x C [] :: L) := by
  have u : Upt [] H (upd (upd H dx (.own x)) x (.ins C dx [])) := fun b o _ e => by rw [upd_ne (ne_of_none e hx), upd_ne (ne_of_none e hdx)]; exact e
  exact hh.new (H2 := upd (upd H dx (.own x)) x (.ins C dx [])) (p := x) (o := .ins C dx []) (P := fun o => ∃ dx, o = .ins C dx []) ⟨hx, upd_same, u⟩ ⟨dx, rfl⟩
theorem Two.nil {R : List Cell} {f sl : Addr} {room N : Nat} (h1 : tupC f [V.ref sl, V.int (0 : Nat)] ∈ R) (h2 : lstC sl (([] : List Int).map V.int) ∈ R) : Two R f sl [] 0 room N := ⟨h1, h2, Nat.zero_le _, Nat.zero_le _, Nat.zero_le _⟩
theorem g_shown {o l sl : Addr} {room out : Nat} {s : List Int} {L : List Cell} {H : Hp} {Q : VK} {E : XK} (hh : Hd H L) (m1 : pipI C o room l out ∈ L) (m2 : lstC l ((s.drop out).map V.int) ∈ L) (m3 : lstC sl (s.map V.int) ∈ L) (ho : out ≤ s.length) (hl : s.length ≤ 100) (q : ∀ H', Hd H' L → Q (.bl true) H') : sp_shown C [.ref o, .int room, .ref sl, .int out] H Q E :=
  ⟨o, l, sl, room, out, s, L, rfl, hh, m1, m2, m3, ho, hl, q⟩
/-- where the law stands: both pipes, both pairs, the cells W besides -/
def LS (C a st c o1 l1 o2 l2 : Addr) (room N : Nat) (W : List Cell) (σ : L2.St) (H : Hp) : Prop := ∃ (x7 x8 x9 : Option V) (f1 sl1 : Addr) (s1 : List Int) (out1 : Nat) (f2 sl2 : Addr) (s2 : List Int) (out2 : Nat) (R : List Cell), σ = [some (.ref a), some (.ref st), some (.int room), some (.ref o1), some (.ref o2), some (.ref f1), some (.ref f2), x7, x8, x9] ∧
  Two R f1 sl1 s1 out1 room N ∧ Two R f2 sl2 s2 out2 4 N ∧ (∀ x ∈ W, x ∈ R) ∧ Hd H (stoC st c :: scrC c :: pipI C o1 room l1 out1 :: lstC l1 ((s1.drop out1).map V.int) :: pipI C o2 4 l2 out2 :: lstC l2 ((s2.drop out2).map V.int) :: R)
theorem LS.mono {a st c o1 l1 o2 l2 : Addr} {room N N' : Nat} {W W' : List Cell} {σ : L2.St} {H : Hp} (h : LS C a st c o1 l1 o2 l2 room N W σ H) (hn : N ≤ N') (hw : ∀ x ∈ W', x ∈ W) : LS C a st c o1 l1 o2 l2 room N' W' σ H := by
  obtain ⟨x7, x8, x9, f1, sl1, s1, out1, f2, sl2, s2, out2, R, e, t1, t2, wI, hh⟩ := h
  exact ⟨x7, x8, x9, f1, sl1, s1, out1, f2, sl2, s2, out2, R, e, t1.up (fun _ h => h) hn, t2.up (fun _ h => h) hn, (fun x hx => wI x (hw x hx)), hh⟩
theorem stS_len {room out : Nat} {s : List Int} {cl : PCall} : (stS room s out cl).length ≤ s.length + 1 := by
  cases cl with
  | send x k =>
    show (if (s.drop out).length = room then s else s ++ [x]).length ≤ _
    split
    · omega
    · rw [List.length_append]; exact Nat.le_refl _
  | bad v k => exact Nat.le_succ _
  | recv => exact Nat.le_succ _
theorem nxtW_len {room : Nat} {ws : List Int} {cl : PCall} (h : ws.length ≤ room) : (nxtW room ws cl).length ≤ room := by
  cases cl with
  | send x k =>
    show (if ws.length = room then ws else ws ++ [x]).length ≤ _
    split
    · exact h
    · rw [List.length_append]; show ws.length + 1 ≤ room; omega
  | bad v k => exact h
  | recv => show ws.tail.length ≤ room; rw [List.length_tail]; omega
theorem nxtO_le {room out : Nat} {s : List Int} {cl : PCall} (h : out ≤ s.length) : nxtO (s.drop out) out cl ≤ (stS room s out cl).length := by
  cases cl with
  | send x k =>
    show out ≤ (if (s.drop out).length = room then s else s ++ [x]).length
    split
    · exact h
    · rw [List.length_append]; omega
  | bad v k => exact h
  | recv =>
    show (match s.drop out with
      | [] => out
      | _ :: _ => out + 1) ≤ s.length
    cases e : s.drop out with
    | nil => exact h
    | cons x r =>
      have := congrArg List.length e
      rw [List.length_drop, List.length_cons] at this
      show out + 1 ≤ s.length
      omega
theorem g_step {o l sl t f : Addr} {cl : PCall} {room out N : Nat} {s : List Int} {a1 a2 a3 a4 : Cell} {R : List Cell} {H : Hp} {Q : VK} {E : XK} (hh : Hd H (pipI C o room l out :: lstC l ((s.drop out).map V.int) :: a1 :: a2 :: a3 :: a4 :: R)) (hc : CallOk K R cl) (mt : tupC t (cV cl) ∈ R) (h : Two R f sl s out room N) (hN : N ≤ 98)
    (q : ∀ u sl' s' out' Z H', Two (tupC u [V.ref sl', V.int (out' : Nat)] :: (Z ++ R)) u sl' s' out' room (N + 1) → Hd H' (pipI C o room l out' :: lstC l ((s'.drop out').map V.int) :: a1 :: a2 :: a3 :: a4 :: (tupC u [V.ref sl', V.int (out' : Nat)] :: (Z ++ R))) → Q (.ref u) H') : sp_step K C [.ref o, .int room, .ref sl, .int out, .ref t] H Q E := by
  obtain ⟨m1, m2, ho, hm, hl⟩ := h
  refine ⟨o, l, sl, t, cl, room, out, s, a1 :: a2 :: a3 :: a4 :: R, rfl, hc.sb (fun H h => h.tail.tail.tail.tail), ho, hm, by omega, by walk_at "mem", by walk_at "mem", hh, fun u sl' Z H' e h => ?_⟩
  refine q u sl' (stS room s out cl) (nxtO (s.drop out) out cl) Z H' ⟨.head _, .tail _ ?_, nxtO_le ho, ?_, Nat.le_trans stS_len (by omega)⟩ (Hd.sb (A := pipI C o room l (nxtO (s.drop out) out cl) :: lstC l (((stS room s out cl).drop (nxtO (s.drop out) out cl)).map V.int) :: a1 :: a2 :: a3 :: a4 :: tupC u [V.ref sl', V.int (nxtO (s.drop out) out cl : Nat)] :: (Z ++ R)) h (by walk_at "sbx"))
  · rcases e with e | ⟨rfl, e⟩
    · exact List.mem_append_left _ e
    · rw [e]; exact List.mem_append_right _ m2
  · rw [← nxt_st ho]; exact nxtW_len hm
def sp_law (K : PySem.W.Frag) : Sp := fun vs H Q _ => ∃ (a : Addr) (ns : List Int), vs = [.ref a] ∧ SqL K H a (ns.map V.int) ∧ ns.length ≤ 63 ∧ ∀ H', Q (.bl true) H'
theorem c_law {f : Addr} {fd : FuncData} (T : Txt K mg aREG aOPS) (gP : mg "Pipe" = some (.ref C)) (d : FunT K "law" s_law f fd) (c__law_store : C8.Cal P w K mg base 1 "_law_store" (sp_store K) []) (c__law_take : C8.Cal P w K mg base 2 "_law_take" sp_take []) (c__law_size : C8.Cal P w K mg base 3 "_law_size" sp_size []) (c__law_between : C8.Cal P w K mg base 3 "_law_between" sp_between [])
    (c_Pipe : C8.Mak P w K mg base 4 "Pipe" C (sp_pipI C) [.int 4]) (ck_Pipe : MakK P w K mg base 4 "Pipe" C (sp_pipI C) ["room"] (fun vs zs => vs ++ zs)) (c__law_words : C8.Cal P w K mg base 5 "_law_words" sp_lwords []) (c__law_drawn_call : C8.Cal P w K mg base 5 "_law_drawn_call" (sp_dcall K) []) (c__law_step : C8.Cal P w K mg base 7 "_law_step" (sp_step K C) []) (c__law_shown : C8.Cal P w K mg base 4 "_law_shown" (sp_shown C) []) (c__law_paired : C8.Cal P w K mg base 4 "_law_paired" (sp_paired C) [])
    (c__law_wrong_integer : C8.Cal P w K mg base 4 "_law_wrong_integer" (sp_wrongD K) []) (c__law_refuses : C8.Cal P w K mg base 6 "_law_refuses" (sp_refs K) []) : FnOk P w K mg base CX0 8 f fd ["script"] (sp_law K) := by
  refine mkF d sc_law (fun vs H Q E h => ?_) (fun fa cdv A outer s H vs Q E hr h => ?_)
  · obtain ⟨a, ns, rfl, _⟩ := h
    rfl
  · obtain ⟨a, ns, rfl, ha, hn, q⟩ := h
    refine ⟨_, (pss_cons (ps_set (i := 1) sc_law.nd rfl (Or.inl rfl) (C8.pe_c c__law_store hr (by first | decide | omega) rfl (pa_cons (pv 0) (pa_cons pe_int pa_nil))))
  (pss_cons (ps_set (i := 2) sc_law.nd rfl (Or.inl rfl) (C8.pe_c c__law_between hr (by first | decide | omega) rfl (pa_cons (pv 1) (pa_cons pe_int (pa_cons pe_int pa_nil)))))
  (pss_cons (ps_set (i := 3) sc_law.nd rfl (Or.inl rfl) (pe_mkK ck_Pipe hr (by first | decide | omega) rfl (pk_cons (pv 2) pk_nil)))
  (pss_cons (ps_set (i := 4) sc_law.nd rfl (Or.inl rfl) (Wk.pe_mk0 c_Pipe hr (by first | decide | omega) rfl))
  (pss_cons (ps_set (i := 5) sc_law.nd rfl (Or.inl rfl) (pe_tup (pa_cons (pe_lst pa_nil) (pa_cons pe_int pa_nil))))
  (pss_cons (ps_set (i := 6) sc_law.nd rfl (Or.inl rfl) (pe_tup (pa_cons (pe_lst pa_nil) (pa_cons pe_int pa_nil))))
  (pss_cons (ps_if (PW.pt (pw_or (pt_not (pt_val (C8.pe_c c__law_shown hr (by first | decide | omega) rfl (pa_cons (pv 3) (pa_cons (pv 2) (pa_cons (pe_lst pa_nil) (pa_cons pe_int pa_nil))))))) (pw_or1 (pt_not (pt_val (C8.pe_c c__law_shown hr (by first | decide | omega) rfl (pa_cons (pv 4) (pa_cons pe_int (pa_cons (pe_lst pa_nil) (pa_cons pe_int pa_nil))))))))))
    (pss_one (ps_ret pe_bl))
    pss_nil)
  (C8.pss_cut (ps_if (pt_cmpR op_eq (C8.pe_c c__law_take hr (by first | decide | omega) rfl (pa_cons (pv 1) (pa_cons pe_int pa_nil))) pe_int (nomark _))
    (pss_one (ps_for PassesOwn.never rfl (pi_list (C8.pe_c c__law_words hr (by first | decide | omega) rfl (pa_cons (pv 1) (pa_cons (pe_op op_add (pv 2) (C8.pe_c c__law_take hr (by first | decide | omega) rfl (pa_cons (pv 1) (pa_cons pe_int pa_nil)))) pa_nil)))) (pg_name (i := 7) sc_law.nd rfl (Or.inl rfl))
        (pss_cons (ps_set (i := 5) sc_law.nd rfl (Or.inl rfl) (C8.pe_c c__law_step hr (by first | decide | omega) rfl (pa_cons (pv 3) (pa_cons (pv 2) (pa_cons (pe_ix ix_tup (pv 5) pe_int (fun _ _ => rfl)) (pa_cons (pe_ix ix_tup (pv 5) pe_int (fun _ _ => rfl)) (pa_cons (pe_tup (pa_cons pe_str (pa_cons (pv 7) (pa_cons pe_int pa_nil)))) pa_nil)))))))
          (pss_one (ps_if (pt_cmpR op_isN1 (pv 5) pe_non (nomark _))
            (pss_one (ps_ret pe_bl))
            pss_nil)))))
    pss_nil)
  (pss_cons (ps_for PassesOwn.never rfl (pi_range1 rfl T.b_range (pa_cons (C8.pe_c c__law_size hr (by first | decide | omega) rfl (pa_cons (pv 1) (pa_cons pe_int pa_nil))) pa_nil)) (pg_name (i := 8) sc_law.nd rfl (Or.inl rfl))
    (pss_cons (ps_set (i := 9) sc_law.nd rfl (Or.inl rfl) (C8.pe_c c__law_drawn_call hr (by first | decide | omega) rfl (pa_cons (pv 1) pa_nil)))
      (C8.pss_cut (ps_if (pt_cmpR op_eq (C8.pe_c c__law_take hr (by first | decide | omega) rfl (pa_cons (pv 1) (pa_cons pe_int pa_nil))) pe_int (nomark _))
        (pss_one (ps_set (i := 6) sc_law.nd rfl (Or.inl rfl) (C8.pe_c c__law_step hr (by first | decide | omega) rfl (pa_cons (pv 4) (pa_cons pe_int (pa_cons (pe_ix ix_tup (pv 6) pe_int (fun _ _ => rfl)) (pa_cons (pe_ix ix_tup (pv 6) pe_int (fun _ _ => rfl)) (pa_cons (pv 9) pa_nil))))))))
        (pss_one (ps_set (i := 5) sc_law.nd rfl (Or.inl rfl) (C8.pe_c c__law_step hr (by first | decide | omega) rfl (pa_cons (pv 3) (pa_cons (pv 2) (pa_cons (pe_ix ix_tup (pv 5) pe_int (fun _ _ => rfl)) (pa_cons (pe_ix ix_tup (pv 5) pe_int (fun _ _ => rfl)) (pa_cons (pv 9) pa_nil)))))))))
      (pss_cons (ps_if (PW.pt (pw_or (pt_cmpR op_isN1 (pv 5) pe_non (nomark _)) (pw_or (pt_cmpR op_isN1 (pv 6) pe_non (nomark _)) (pw_or1 (pt_not (pt_val (C8.pe_c c__law_shown hr (by first | decide | omega) rfl (pa_cons (pv 3) (pa_cons (pv 2) (pa_cons (pe_ix ix_tup (pv 5) pe_int (fun _ _ => rfl)) (pa_cons (pe_ix ix_tup (pv 5) pe_int (fun _ _ => rfl)) pa_nil)))))))))))
        (pss_one (ps_ret pe_bl))
        pss_nil)
      (pss_one (ps_if (pt_not (pt_val (C8.pe_c c__law_shown hr (by first | decide | omega) rfl (pa_cons (pv 4) (pa_cons pe_int (pa_cons (pe_ix ix_tup (pv 6) pe_int (fun _ _ => rfl)) (pa_cons (pe_ix ix_tup (pv 6) pe_int (fun _ _ => rfl)) pa_nil)))))))
        (pss_one (ps_ret pe_bl))
        pss_nil))))))
  (pss_cons (ps_for PassesOwn.never rfl (pi_range1 rfl T.b_range (pa_cons (pe_op op_mul (C8.pe_c c__law_take hr (by first | decide | omega) rfl (pa_cons (pv 1) (pa_cons pe_int pa_nil))) pe_int) pa_nil)) (pg_name (i := 8) sc_law.nd rfl (Or.inl rfl))
    (pss_cons (ps_set (i := 5) sc_law.nd rfl (Or.inl rfl) (C8.pe_c c__law_step hr (by first | decide | omega) rfl (pa_cons (pv 3) (pa_cons (pv 2) (pa_cons (pe_ix ix_tup (pv 5) pe_int (fun _ _ => rfl)) (pa_cons (pe_ix ix_tup (pv 5) pe_int (fun _ _ => rfl)) (pa_cons (pe_tup (pa_cons pe_str pa_nil)) pa_nil)))))))
      (pss_one (ps_if (pt_cmpR op_isN1 (pv 5) pe_non (nomark _))
        (pss_one (ps_ret pe_bl))
        pss_nil))))
  (pss_cons (ps_if (PW.pt (pw_or (pt_not (pt_val (C8.pe_c c__law_paired hr (by first | decide | omega) rfl (pa_cons (pv 3) (pa_cons (pe_slice sl_list (pe_ix ix_tup (pv 5) pe_int (fun _ _ => rfl)) (po_some (pe_ix ix_tup (pv 5) pe_int (fun _ _ => rfl))) po_none) pa_nil))))) (pw_or1 (pt_not (pt_val (C8.pe_c c__law_paired hr (by first | decide | omega) rfl (pa_cons (pv 4) (pa_cons (pe_slice sl_list (pe_ix ix_tup (pv 6) pe_int (fun _ _ => rfl)) (po_some (pe_ix ix_tup (pv 6) pe_int (fun _ _ => rfl))) po_none) pa_nil))))))))
    (pss_one (ps_ret pe_bl))
    pss_nil)
  (pss_one (ps_ret (pe_and (C8.pe_c c__law_shown hr (by first | decide | omega) rfl (pa_cons (pv 3) (pa_cons (pv 2) (pa_cons (pe_ix ix_tup (pv 5) pe_int (fun _ _ => rfl)) (pa_cons (pe_ix ix_tup (pv 5) pe_int (fun _ _ => rfl)) pa_nil))))) (pe_one (C8.pe_c c__law_refuses hr (by first | decide | omega) rfl (pa_cons (C8.pe_c c__law_wrong_integer hr (by first | decide | omega) rfl (pa_cons (pv 1) (pa_cons pe_int (pa_cons pe_int pa_nil)))) pa_nil))))))))))))))))), ?_⟩
    have hh : Hd H [] := ⟨List.nodup_nil, fun c hc => by cases hc⟩
    walk_at "gs"
    refine g_store hh ha hn (by omega) (by omega) fun st c H1 h1 => ?_
    clear hh
    walk_at "gs"
    rename_i room H2 hr1 hr2 h2
    clear h1
    unfold tMakeK
    walk_at "gs"
    refine ⟨rfl, rfl, ?_⟩
    intro o1 dx hx hdx ne
    have h3 := hdMade (C := C) h2 hx hdx
    generalize upd (upd H2 dx (.own o1)) o1 (.ins C dx []) = H3 at h3 ⊢
    refine ⟨o1, room, _, rfl, by omega, by omega, h3, fun l1 H4 h4 => ⟨rfl, ?_⟩⟩
    clear hx hdx ne
    clear h2 h3
    walk_at "gs"
    rename_i o2 H5 h5
    refine ⟨o2, 4, _, rfl, by decide, by decide, h5, fun l2 H6 h6 => ⟨rfl, ?_⟩⟩
    clear h4 h5
    walk_at "gs"
    rename_i p1 H7 h7 f1 H8 h8 p2 H9 h9 f2 H10 h10 p3 H11 h11
    have h12 : Hd H11 (stoC st c :: scrC c :: pipI C o1 room l1 0 :: lstC l1 ((([] : List Int).drop 0).map V.int) :: pipI C o2 4 l2 0 :: lstC l2 ((([] : List Int).drop 0).map V.int) :: [lstC p3 (([] : List Int).map V.int), tupC f1 [V.ref p1, V.int (0 : Nat)], lstC p1 (([] : List Int).map V.int), tupC f2 [V.ref p2, V.int (0 : Nat)], lstC p2 (([] : List Int).map V.int)]) := Hd.sb (A := stoC st c :: scrC c :: pipI C o1 room l1 0 :: lstC l1 (List.map V.int []) :: pipI C o2 4 l2 0 :: lstC l2 (List.map V.int []) :: lstC p3 [] :: tupC f1 [V.ref p1, V.int 0] :: lstC p1 [] :: tupC f2 [V.ref p2, V.int 0] :: lstC p2 [] :: []) h11 (by walk_at "sbx")
    clear h6 h7 h8 h9 h10 h11
    refine g_shown h12 (by walk_at "mem") (by walk_at "mem") (by walk_at "mem") (Nat.le_refl _) (Nat.zero_le _) fun H13 h13 => ?_
    clear h12
    walk_at "gs"
    rename_i p4 H14 h14
    refine g_shown (s := []) (out := 0) h14 (by walk_at "mem") (by walk_at "mem") (.head _) (Nat.le_refl _) (Nat.zero_le _) fun H15 h15 => ?_
    clear h13 h14
    replace h15 := h15.tail
    walk_at "gs"
    refine w_cut (fun σ H => LS C a st c o1 l1 o2 l2 room 17 [] σ H) ?_ ?_
    · walk_at "gs"
      rename_i k1 H16 hk1 h16
      clear h15
      refine w_ite (fun e => ?_) (fun e => ?_)
      · walk_at "gs"
        rename_i k2 H17 hk2 h17
        rw [show ((room : Int) + (k2 : Int)) = ((room + k2 : Nat) : Int) from rfl]
        refine g_words h17 (by walk_at "spl") (by omega) fun wp ws H18 hwl hwd h18 => ?_
        clear h16 h17
        walk_at "gs"
        refine l_list (h18.sqL (by walk_at "mem")) (fun i σ H => LS C a st c o1 l1 o2 l2 room i [lstC wp (ws.map V.int)] σ H) ?_ (fun i σ H hi hS => ?_) (fun i y σ H hy hS => ?_) (fun σ H hS => ?_)
        · exact ⟨none, none, none, f1, p1, [], 0, f2, p2, [], 0, lstC wp (ws.map V.int) :: [tupC f1 [V.ref p1, V.int (0 : Nat)], lstC p1 (([] : List Int).map V.int), tupC f2 [V.ref p2, V.int (0 : Nat)], lstC p2 (([] : List Int).map V.int)], rfl, .nil (by walk_at "mem") (by walk_at "mem"), .nil (by walk_at "mem") (by walk_at "mem"), (fun x hx => by rw [List.mem_singleton.mp hx]; exact .head _), Hd.sb h18 (by walk_at "sbx")⟩
        · obtain ⟨x7, x8, x9, f1, sl1, s1, out1, f2, sl2, s2, out2, R, e, t1, t2, wI, hh⟩ := hS
          exact hh.sqL (.tail _ (.tail _ (.tail _ (.tail _ (.tail _ (.tail _ (wI _ (.head _))))))))
        · obtain ⟨x7, x8, x9, f1, sl1, s1, out1, f2, sl2, s2, out2, R, rfl, t1, t2, wI, hh⟩ := hS
          obtain ⟨y, hyw, rfl⟩ : ∃ z, ws[i]? = some z ∧ V.int z = y := by simpa [List.getElem?_map] using hy
          have hi := (List.getElem?_eq_some_iff.mp hyw).1
          have hyb := hwd y (List.mem_of_getElem? hyw)
          have m1 := t1.1
          clear h18
          dsimp only [List.set]
          walk_at "gs"
          rename_i t H19 h19
          have h20 : Hd H19 (pipI C o1 room l1 out1 :: lstC l1 ((s1.drop out1).map V.int) :: stoC st c :: scrC c :: pipI C o2 4 l2 out2 :: lstC l2 ((s2.drop out2).map V.int) :: (tupC t (cV (.send y 1)) :: R)) := Hd.sb (A := pipI C o1 room l1 out1 :: lstC l1 ((s1.drop out1).map V.int) :: stoC st c :: scrC c :: pipI C o2 4 l2 out2 :: lstC l2 ((s2.drop out2).map V.int) :: tupC t [V.str "send", V.int y, V.int 1] :: R) h19 (by walk_at "sbx")
          clear hh h19
          refine g_step (cl := .send y 1) h20 ⟨hyb, by decide⟩ (.head _) (t1.up (fun _ h => .tail _ h) (Nat.le_refl _)) (by omega) fun u sl' s' out' Z H21 t1' h21 => ?_
          walk_at "gs"
          exact ⟨some (.int y), x8, x9, u, sl', s', out', f2, sl2, s2, out2, _, rfl, t1', t2.up (fun x hx => .tail _ (List.mem_append_right _ (.tail _ hx))) (Nat.le_succ _), (fun x hx => .tail _ (List.mem_append_right _ (.tail _ (wI x hx)))), Hd.sb (A := stoC st c :: scrC c :: pipI C o1 room l1 out' :: lstC l1 ((s'.drop out').map V.int) :: pipI C o2 4 l2 out2 :: lstC l2 ((s2.drop out2).map V.int) :: tupC u [V.ref sl', V.int (out' : Nat)] :: (Z ++ (tupC t (cV (.send y 1)) :: R))) h21 (by walk_at "sbx")⟩
        · exact hS.mono (by rw [List.length_map]; omega) (fun x hx => nomatch hx)
      · exact ⟨none, none, none, f1, p1, [], 0, f2, p2, [], 0, [tupC f1 [V.ref p1, V.int (0 : Nat)], lstC p1 (([] : List Int).map V.int), tupC f2 [V.ref p2, V.int (0 : Nat)], lstC p2 (([] : List Int).map V.int)], rfl, .nil (by walk_at "mem") (by walk_at "mem"), .nil (by walk_at "mem") (by walk_at "mem"), (fun x hx => nomatch hx), Hd.sb h16 (by walk_at "sbx")⟩
    · clear h15
      intro σ H hS
      obtain ⟨x7, x8, x9, f1, sl1, s1, out1, f2, sl2, s2, out2, R, rfl, t1, t2, wI, h1⟩ := hS
      walk_at "gs"
      rename_i k2 H2 hk2 h2
      refine l_range (m := k2) rfl (by omega) (fun i σ H => LS C a st c o1 l1 o2 l2 room (17 + i) [] σ H) ⟨x7, x8, x9, f1, sl1, s1, out1, f2, sl2, s2, out2, R, rfl, t1, t2, wI, h2⟩ (fun i σ H hi hS => ?_) (fun σ H hS => ?_)
      · obtain ⟨x7, x8, x9, f1, sl1, s1, out1, f2, sl2, s2, out2, R, rfl, t1, t2, wI, hh⟩ := hS
        clear h1 h2
        dsimp only [List.set]
        walk_at "gs"
        refine ⟨st, c, _, rfl, hh, fun t cl Z H3 hc h3 => ?_⟩
        have h4 : Hd H3 (stoC st c :: scrC c :: pipI C o1 room l1 out1 :: lstC l1 ((s1.drop out1).map V.int) :: pipI C o2 4 l2 out2 :: lstC l2 ((s2.drop out2).map V.int) :: (tupC t (cV cl) :: (Z ++ R))) := Hd.sb h3 (by walk_at "sbx")
        have hc2 : CallOk K (tupC t (cV cl) :: (Z ++ R)) cl := hc.sb fun H h => Hd.sb h (by walk_at "sbx")
        have t1' := t1.up (R' := tupC t (cV cl) :: (Z ++ R)) (fun x hx => .tail _ (List.mem_append_right _ hx)) (Nat.le_refl _)
        have t2' := t2.up (R' := tupC t (cV cl) :: (Z ++ R)) (fun x hx => .tail _ (List.mem_append_right _ hx)) (Nat.le_refl _)
        have mt : tupC t (cV cl) ∈ tupC t (cV cl) :: (Z ++ R) := .head _
        generalize tupC t (cV cl) :: (Z ++ R) = R2 at h4 hc2 t1' t2' mt
        have m1 := t1'.1
        have m2 := t2'.1
        clear hh h3 hc t1 t2
        walk_at "gs"
        refine w_cut (fun σ H => LS C a st c o1 l1 o2 l2 room (17 + (i + 1)) [] σ H) ?_ ?_
        · walk_at "gs"
          rename_i k3 H5 hk3 h5
          clear h4
          refine w_ite (fun e => ?_) (fun e => ?_)
          · walk_at "gs"
            refine g_step (room := 4) (cl := cl) (show Hd H5 (pipI C o2 4 l2 out2 :: lstC l2 ((s2.drop out2).map V.int) :: stoC st c :: scrC c :: pipI C o1 room l1 out1 :: lstC l1 ((s1.drop out1).map V.int) :: R2) from Hd.sb h5 (by walk_at "sbx")) hc2 mt t2' (by omega) fun u sl' s' out' Z H21 t3 h21 => ?_
            walk_at "gs"
            exact ⟨x7, _, _, f1, sl1, s1, out1, u, sl', s', out', _, rfl, t1'.up (fun x hx => .tail _ (List.mem_append_right _ hx)) (Nat.le_succ _), t3, (fun x hx => nomatch hx), Hd.sb (A := stoC st c :: scrC c :: pipI C o1 room l1 out1 :: lstC l1 ((s1.drop out1).map V.int) :: pipI C o2 4 l2 out' :: lstC l2 ((s'.drop out').map V.int) :: tupC u [V.ref sl', V.int (out' : Nat)] :: (Z ++ R2)) h21 (by walk_at "sbx")⟩
          · walk_at "gs"
            refine g_step (cl := cl) (show Hd H5 (pipI C o1 room l1 out1 :: lstC l1 ((s1.drop out1).map V.int) :: stoC st c :: scrC c :: pipI C o2 4 l2 out2 :: lstC l2 ((s2.drop out2).map V.int) :: R2) from Hd.sb h5 (by walk_at "sbx")) hc2 mt t1' (by omega) fun u sl' s' out' Z H21 t3 h21 => ?_
            walk_at "gs"
            exact ⟨x7, _, _, u, sl', s', out', f2, sl2, s2, out2, _, rfl, t3, t2'.up (fun x hx => .tail _ (List.mem_append_right _ hx)) (Nat.le_succ _), (fun x hx => nomatch hx), Hd.sb (A := stoC st c :: scrC c :: pipI C o1 room l1 out' :: lstC l1 ((s'.drop out').map V.int) :: pipI C o2 4 l2 out2 :: lstC l2 ((s2.drop out2).map V.int) :: tupC u [V.ref sl', V.int (out' : Nat)] :: (Z ++ R2)) h21 (by walk_at "sbx")⟩
        · intro σ H hS
          obtain ⟨x7, x8, x9, f1, sl1, s1, out1, f2, sl2, s2, out2, R, rfl, t1, t2, wI, hh⟩ := hS
          have m1 := t1.1
          have m2 := t2.1
          clear h4
          walk_at "gs"
          refine g_shown hh (by walk_at "mem") (by walk_at "mem") (by have := t1.2.1; walk_at "mem") t1.2.2.1 (by have := t1.2.2.2.2; omega) fun H6 h6 => ?_
          clear hh
          walk_at "gs"
          refine g_shown (room := 4) h6 (by walk_at "mem") (by walk_at "mem") (by have := t2.2.1; walk_at "mem") t2.2.2.1 (by have := t2.2.2.2.2; omega) fun H7 h7 => ?_
          clear h6
          walk_at "gs"
          exact ⟨x7, x8, x9, f1, sl1, s1, out1, f2, sl2, s2, out2, R, rfl, t1, t2, wI, h7⟩
      · obtain ⟨x7, x8, x9, f1, sl1, s1, out1, f2, sl2, s2, out2, R, rfl, t1, t2, wI, hh⟩ := hS
        clear h1 h2
        walk_at "gs"
        rename_i k4 H3 hk4 h3
        clear hh
        refine l_range (m := k4 * 17) (by simp) (by omega) (fun i σ H => LS C a st c o1 l1 o2 l2 room (57 + i) [] σ H) ⟨x7, x8, x9, f1, sl1, s1, out1, f2, sl2, s2, out2, R, rfl, t1.up (fun _ h => h) (by omega), t2.up (fun _ h => h) (by omega), wI, h3⟩ (fun i σ H hi hS => ?_) (fun σ H hS => ?_)
        · obtain ⟨x7, x8, x9, f1, sl1, s1, out1, f2, sl2, s2, out2, R, rfl, t1, t2, wI, hh⟩ := hS
          have m1 := t1.1
          clear h3
          dsimp only [List.set]
          walk_at "gs"
          rename_i t H4 h4
          have h5 : Hd H4 (pipI C o1 room l1 out1 :: lstC l1 ((s1.drop out1).map V.int) :: stoC st c :: scrC c :: pipI C o2 4 l2 out2 :: lstC l2 ((s2.drop out2).map V.int) :: (tupC t (cV .recv) :: R)) := Hd.sb (A := pipI C o1 room l1 out1 :: lstC l1 ((s1.drop out1).map V.int) :: stoC st c :: scrC c :: pipI C o2 4 l2 out2 :: lstC l2 ((s2.drop out2).map V.int) :: tupC t [V.str "receive"] :: R) h4 (by walk_at "sbx")
          clear hh h4
          refine g_step (cl := .recv) h5 trivial (.head _) (t1.up (fun _ h => .tail _ h) (Nat.le_refl _)) (by omega) fun u sl' s' out' Z H21 t1' h21 => ?_
          walk_at "gs"
          exact ⟨x7, _, x9, u, sl', s', out', f2, sl2, s2, out2, _, rfl, t1', t2.up (fun x hx => .tail _ (List.mem_append_right _ (.tail _ hx))) (Nat.le_succ _), (fun x hx => nomatch hx), Hd.sb (A := stoC st c :: scrC c :: pipI C o1 room l1 out' :: lstC l1 ((s'.drop out').map V.int) :: pipI C o2 4 l2 out2 :: lstC l2 ((s2.drop out2).map V.int) :: tupC u [V.ref sl', V.int (out' : Nat)] :: (Z ++ (tupC t (cV .recv) :: R))) h21 (by walk_at "sbx")⟩
        · obtain ⟨x7, x8, x9, f1, sl1, s1, out1, f2, sl2, s2, out2, R, rfl, t1, t2, wI, hh⟩ := hS
          have m1 := t1.1
          have m2 := t2.1
          clear h3
          walk_at "gs"
          have n1 := t1.2.1
          have n2 := t2.2.1
          refine g_slLo hh (hh.sqL (by walk_at "mem")) fun q1 H4 h4 => ?_
          rw [← List.map_drop] at h4
          walk_at "gs"
          refine ⟨o1, l1, q1, room, out1, s1.drop out1, _, rfl, h4, by walk_at "mem", by walk_at "mem", .head _, by have := t1.2.2.2.1; omega, fun H5 h5 => ?_⟩
          replace h5 := h5.tail
          clear hh h4
          walk_at "gs"
          refine g_slLo h5 (h5.sqL (by walk_at "mem")) fun q2 H6 h6 => ?_
          rw [← List.map_drop] at h6
          walk_at "gs"
          refine ⟨o2, l2, q2, 4, out2, s2.drop out2, _, rfl, h6, by walk_at "mem", by walk_at "mem", .head _, by have := t2.2.2.2.1; omega, fun H7 h7 => ?_⟩
          replace h7 := h7.tail
          clear h5 h6
          walk_at "gs"
          refine g_shown h7 (by walk_at "mem") (by walk_at "mem") (by walk_at "mem") t1.2.2.1 (by have := t1.2.2.2.2; omega) fun H8 h8 => ?_
          clear h7
          walk_at "gs"
          refine g_wrongD h8 (by walk_at "spl") (by decide) (by decide) (by decide) fun v Z H9 wr h9 => ?_
          clear h8
          walk_at "gs"
          refine ⟨v, _, rfl, wr.1, fun H' h => ?_, h9, fun H' _ => q H'⟩
          obtain ⟨d, hz⟩ := wr.2
          exact dn_kh (hz H' (Hd.sb h (by walk_at "sbx")))
end
end
end K45
set_option Elab.async false
set_option linter.all false
set_option maxRecDepth 100000
set_option maxHeartbeats 4000000
namespace K45
open PySem PySem.Spec PyProof.Rows L2 Wk
local macro_rules | `(tactic| walk_at "u1") => `(tactic| fail "no more")
local macro_rules | `(tactic| walk_at "pos") => `(tactic| first | assumption | omega | decide | (simp only [Int.ofNat_eq_natCast] at *; omega))
local macro_rules | `(tactic| walk_at "sz") => `(tactic| first
  | (simp only [List.length_cons, List.length_nil]; decide)
  | exact Evl.sz_of (by omega)
  | exact Evl.sz_lt (by omega)
  | exact Evl.sz_of (by simp only [List.length_map, List.length_append, List.length_cons, List.length_nil, List.length_replicate]; omega)
  | exact Evl.sz_lt (by simp only [List.length_map, List.length_append, List.length_cons, List.length_nil, List.length_replicate]; omega))
local macro_rules | `(tactic| walk_at "cond") => `(tactic| first
  | exact Or.inr ⟨by decide, by decide⟩
  | (show (0 : Int) < _; first | decide | assumption | omega)
  | exact Or.inl ⟨by omega, by omega⟩
  | exact Or.inr ⟨by omega, by omega⟩
  | exact ⟨by decide, by decide, by decide⟩
  | exact log2_lt (by omega) (by omega)
  | exact ⟨by omega, by omega⟩)
local macro_rules | `(tactic| walk_at "ty") => `(tactic| first
  | exact ty_int | exact ty_bl | exact ty_str | exact ty_non
  | exact ty_L (by assumption) | exact ty_T (by assumption)
  | exact ty_L (SqL.of (by assumption)) | exact ty_T (SqT.of (by assumption)))
local macro_rules | `(tactic| walk_at "kit") => `(tactic| first
  | exact k_ii | exact k_ib | exact k_is | exact k_il | exact k_it
  | exact k_bb | exact k_bi | exact k_bs | exact k_bl | exact k_bt
  | exact k_ss | exact k_sb | exact k_si | exact k_sl | exact k_st
  | exact k_ll | exact k_lb | exact k_li | exact k_ls | exact k_lt
  | exact k_tt | exact k_tb | exact k_ti | exact k_ts | exact k_tl
  | exact k_nn | exact k_ni | exact k_ns | exact k_nl | exact k_nt)
local macro_rules | `(tactic| walk_at "s1") => `(tactic| first
  | with_reducible refine w_seq ?_
  | with_reducible refine w_set ?_
  | with_reducible refine w_op ?_
  | ((with_reducible refine' w_var ?h1 ?_); (case h1 => rfl))
  | with_reducible refine w_c ?_
  | with_reducible refine w_cb ?_
  | with_reducible refine w_cons ?_
  | with_reducible refine w_nil ?_
  | with_reducible refine w_I0 ?_
  | ((with_reducible refine' w_I ?c1 ?_); case c1 => walk_at "cond")
  | with_reducible refine w_ret ?_
  | with_reducible refine w_next ?_
  | with_reducible refine w_ifS ?_
  | with_reducible refine w_test ?_
  | with_reducible refine w_tB ?_
  | with_reducible refine w_k ?_
  | with_reducible refine w_eqI ?_
  | with_reducible refine w_neI ?_
  | with_reducible refine w_eqS ?_
  | with_reducible refine w_neS ?_
  | with_reducible refine w_and ?_
  | with_reducible refine w_or ?_
  | with_reducible refine w_not ?_
  | with_reducible refine w_andV ?_
  | with_reducible refine w_orV ?_
  | with_reducible refine w_notV ?_
  | with_reducible refine w_ifE ?_
  | with_reducible refine w_true ?_
  | with_reducible refine w_false ?_
  | with_reducible refine w_ntrue ?_
  | with_reducible refine w_nfalse ?_
  | with_reducible refine w_call ?_
  | with_reducible refine c_int ?_
  | with_reducible refine c_abs ?_
  | with_reducible refine c_max ?_
  | with_reducible refine c_min ?_
  | with_reducible refine w_drop ?_
  | with_reducible refine w_sfld ?_
  | with_reducible refine w_meth ?_
  | with_reducible refine w_make ?_
  | with_reducible refine w_prop ?_
  | with_reducible refine w_callK ?_
  | with_reducible refine w_callN ?_
  | with_reducible refine w_star ?_
  | with_reducible refine w_gcons ?_
  | with_reducible refine w_gname ?_
  | with_reducible refine w_gnil ?_
  | with_reducible refine w_retN ?_
  | with_reducible refine w_tup ?_
  | with_reducible refine w_lst ?_
  | with_reducible refine w_fld ?_
  | with_reducible refine w_bm ?_
  | with_reducible refine w_bm0 ?_
  | with_reducible refine w_forL ?_
  | with_reducible refine w_forT ?_
  | with_reducible refine w_forS ?_
  | with_reducible refine w_forR ?_
  | with_reducible refine w_lcR ?_
  | with_reducible refine w_lcL ?_
  | with_reducible refine w_lcT ?_
  | with_reducible refine w_isN ?_
  | with_reducible refine w_notN ?_
  | with_reducible refine w_asg ?_
  | with_reducible refine w_gsub ?_
  | ((with_reducible refine' w_aug ?h1 ?_); (case h1 => rfl))
  | with_reducible refine w_augS ?_
  | with_reducible refine w_ipI ?_
  | with_reducible refine w_un ?_
  | with_reducible refine w_U ?_
  | ((with_reducible refine' w_iteF ?f1 ?_); case f1 => (first | (intro h; cases h; done) | decide))
  | ((with_reducible refine' w_iteT ?f1 ?_); case f1 => rfl)
  | ((with_reducible refine' w_iteNF ?f1 ?_); case f1 => rfl)
  | ((with_reducible refine' w_iteNT ?f1 ?_); case f1 => (first | (intro h; cases h; done) | decide))
  | ((with_reducible refine' c_isi ?t1 ?k1 ?_); (case t1 => walk_at "ty"); (case k1 => walk_at "kit"))
  | ((with_reducible refine' w_eq ?e1 ?_); case e1 => rfl)
  | ((with_reducible refine' w_ne ?e1 ?_); case e1 => rfl)
  | walk_at "u1")
local macro_rules | `(tactic| walk_at "s") => `(tactic| repeat walk_at "s1")
local macro_rules | `(tactic| walk_at "mem") => `(tactic| first | with_reducible exact List.mem_cons_self .. | ((with_reducible refine' List.mem_cons_of_mem _ ?q); (case q => walk_at "mem")) | assumption | ((with_reducible refine' List.mem_append_right _ ?q); (case q => walk_at "mem")) | (exact List.mem_append_left _ (by assumption)))
local macro_rules | `(tactic| walk_at "pk") => `(tactic| first | with_reducible exact Pk.here | ((with_reducible refine' Pk.there ?q); (case q => walk_at "pk")) | ((with_reducible refine' Pk.app ?q); (case q => walk_at "pk")))
local macro_rules | `(tactic| walk_at "pkb") => `(tactic| first | with_reducible exact PkB.here | ((with_reducible refine' PkB.there ?q); (case q => walk_at "pkb")) | ((with_reducible refine' PkB.app ?q); (case q => walk_at "pkb")))
local macro_rules | `(tactic| walk_at "spl") => `(tactic| first | with_reducible exact Spl.nil | ((with_reducible refine' Spl.cons ?h ?t); (case h => walk_at "pk"); (case t => walk_at "spl")) | ((with_reducible refine' Spl.blk ?h ?t); (case h => walk_at "pkb"); (case t => walk_at "spl")))
local macro_rules | `(tactic| walk_at "sbx") => `(tactic| first | with_reducible exact Sb.refl | with_reducible exact Sb.nil | with_reducible exact Sb.left | ((with_reducible refine' Sb.cons ?h ?t); (case h => walk_at "pk"); (case t => walk_at "sbx")) | ((with_reducible refine' Sb.blk ?h ?t); (case h => walk_at "pkb"); (case t => walk_at "sbx")) | ((with_reducible refine' Sb.drop ?q); (case q => walk_at "sbx")) | ((with_reducible refine' Sb.right ?q); (case q => walk_at "sbx")))
local macro_rules | `(tactic| walk_at "hd") => `(tactic| first | assumption | exact Hd.sb (by assumption) (by walk_at "sbx"))
local macro_rules | `(tactic| walk_at "sq") => `(tactic| first
  | assumption
  | exact Hd.sqL (by assumption) (by walk_at "mem")
  | exact Hd.sqT (by assumption) (by walk_at "mem")
  | exact Hd.sqF (by assumption) (by walk_at "mem")
  | (refine .inl ?_; walk_at "sq")
  | (refine .inr ?_; walk_at "sq"))
local macro_rules | `(tactic| walk_at "at") => `(tactic| first | rfl | assumption | exact atI_nat (by assumption))
local macro_rules | `(tactic| walk_at "dn1") => `(tactic| first
  | exact Dn.int | exact Dn.str | exact Dn.non | exact Dn.bl | assumption
  | ((refine' Dn.tp ?a1 ?m1 ?l1 ?p1); (case a1 => assumption); (case m1 => walk_at "mem"); (case l1 => (simp only [List.length_cons, List.length_nil]; omega)); (case p1 => walk_at "dns"))
  | ((refine' Dn.lt ?a1 ?m1 ?l1 ?p1); (case a1 => assumption); (case m1 => walk_at "mem"); (case l1 => (simp only [List.length_cons, List.length_nil]; omega)); (case p1 => walk_at "dns")))
local macro_rules | `(tactic| walk_at "dns") => `(tactic| first | exact Paired.nil | exact Dn.ints | ((refine' Paired.cons ?a1 ?b1); (case a1 => walk_at "dn1"); (case b1 => walk_at "dns")))
local macro_rules | `(tactic| walk_at "g1") => `(tactic| first
  | ((with_reducible refine' g_ixI ?h1 ?h2 ?h3 ?_); (case h1 => assumption); (case h2 => walk_at "mem"); (case h3 => omega); intro z hz)
  | ((with_reducible refine' g_ixIT ?h1 ?h2 ?h3 ?_); (case h1 => assumption); (case h2 => walk_at "mem"); (case h3 => omega); intro z hz)
  | ((with_reducible refine' g_setI ?h1 ?h2 ?h3 ?_); (case h1 => assumption); (case h2 => walk_at "pk"); (case h3 => omega); intro H2 hh2)
  | ((with_reducible refine' w_ixL ?h1 ?h2 ?_); (case h1 => walk_at "sq"); (case h2 => walk_at "at"))
  | ((with_reducible refine' w_ixT ?h1 ?h2 ?_); (case h1 => walk_at "sq"); (case h2 => walk_at "at"))
  | ((with_reducible refine' w_ixAny ?h1 ?h2 ?_); (case h1 => walk_at "sq"); (case h2 => walk_at "at"))
  | ((with_reducible refine' c_lenA ?h1 ?_); (case h1 => walk_at "sq"))
  | ((with_reducible refine' c_isi ?t1 ?k1 ?_); (case t1 => first | exact ty_T (by walk_at "sq") | exact ty_L (by walk_at "sq")); (case k1 => walk_at "kit"))
  | ((with_reducible refine' g_lst ?h1 ?h2 ?_); (case h1 => assumption); (case h2 => walk_at "sz"); intro p H2 hh2)
  | ((with_reducible refine' g_tup ?h1 ?h2 ?_); (case h1 => assumption); (case h2 => walk_at "sz"); intro p H2 hh2)
  | ((with_reducible refine' g_dict ?h1 ?_); (case h1 => assumption); intro p H2 hh2)
  | ((with_reducible refine' g_listL ?h1 ?h2 ?_); (case h1 => assumption); (case h2 => walk_at "sq"); intro p H2 hh2)
  | ((with_reducible refine' g_listT ?h1 ?h2 ?_); (case h1 => assumption); (case h2 => walk_at "sq"); intro p H2 hh2)
  | ((with_reducible refine' g_tupL ?h1 ?h2 ?_); (case h1 => assumption); (case h2 => walk_at "sq"); intro p H2 hh2)
  | ((with_reducible refine' g_set ?h1 ?h2 ?h3 ?_); (case h1 => assumption); (case h2 => walk_at "pk"); (case h3 => first | rfl | assumption | exact Evl.ixN_nat (by first | omega | (simp only [List.length_cons, List.length_nil]; omega))); intro H2 hh2)
  | ((with_reducible refine' g_kbm ?h1 ?h2 ?_); (case h1 => assumption); (case h2 => walk_at "mem"))
  | ((with_reducible refine' g_kbm0 ?h1 ?h2 ?_); (case h1 => assumption); (case h2 => walk_at "mem"))
  | ((with_reducible refine' g_app ?h1 ?h2 ?h3 ?_); (case h1 => assumption); (case h2 => walk_at "pk"); (case h3 => walk_at "sz"); intro H2 hh2)
  | ((with_reducible refine' g_kapp ?h1 ?h2 ?h3 ?_); (case h1 => assumption); (case h2 => walk_at "pk"); (case h3 => walk_at "sz"); intro H2 hh2)
  | ((with_reducible refine' g_fld ?h1 ?h2 ?h3 ?h4 ?h5 ?_); (case h1 => assumption); (case h2 => walk_at "mem"); (case h3 => assumption); (case h4 => assumption); (case h5 => rfl))
  | ((with_reducible refine' g_sfld ?h1 ?h2 ?h3 ?h4 ?h5 ?_); (case h1 => assumption); (case h2 => walk_at "pk"); (case h3 => assumption); (case h4 => assumption); (case h5 => decide); intro H2 hh2)
  | ((with_reducible refine' g_meth ?h1 ?h2 ?h3 ?_); (case h1 => assumption); (case h2 => walk_at "mem"); (case h3 => rfl))
  | ((with_reducible refine' g_prop ?h1 ?h2 ?_); (case h1 => assumption); (case h2 => walk_at "mem"))
  | ((with_reducible refine' g_make ?h1 ?_); (case h1 => assumption); intro x H2 hh2)
  | ((with_reducible refine' g_cat ?h1 ?h2 ?h3 ?h4 ?_); (case h1 => assumption); (case h2 => walk_at "mem"); (case h3 => walk_at "mem"); (case h4 => walk_at "sz"); intro p H2 hh2)
  | ((with_reducible refine' g_inT ?h1 ?h2 ?h3 ?h4 ?h5 ?_); (case h1 => assumption); (case h2 => walk_at "mem"); (case h3 => rfl); (case h4 => rfl); (case h5 => rfl)))
local macro_rules | `(tactic| walk_at "gs") => `(tactic| repeat first | walk_at "s1" | walk_at "g1")
local macro_rules | `(tactic| walk_at "ite") => `(tactic| first
  | ((with_reducible refine' w_iteT ?h1 ?_); (case h1 => omega))
  | ((with_reducible refine' w_iteF ?h1 ?_); (case h1 => omega))
  | (with_reducible refine w_ite ?_ ?_ <;> intro hq)
  | ((with_reducible refine' w_iteNT ?h1 ?_); (case h1 => omega))
  | ((with_reducible refine' w_iteNF ?h1 ?_); (case h1 => omega))
  | (with_reducible refine w_iteN ?_ ?_ <;> intro hq))
local macro_rules | `(tactic| walk_at "go") => `(tactic| repeat' first | walk_at "s1" | walk_at "g1" | walk_at "ite")
local macro_rules | `(tactic| walk_at "g1") => `(tactic| first
  | ((with_reducible refine' g_take1 ?h1 ?h2 ?h3 ?h4 ?_); (case h1 => assumption); (case h2 => walk_at "spl"); (case h3 => omega); (case h4 => omega); intro k H2 hk1 hh2)
  | ((with_reducible refine' g_take ?h1 ?h2 ?h4 ?_); (case h1 => assumption); (case h2 => walk_at "spl"); (case h4 => omega); intro k H2 hk1 hh2)
  | ((with_reducible refine' g_betweenN ?h1 ?h2 ?h5 ?h3 ?h4 ?_); (case h1 => assumption); (case h2 => walk_at "spl"); (case h5 => omega); (case h3 => omega); (case h4 => omega); intro k H2 hk1 hk2 hh2)
  | ((with_reducible refine' g_between ?h1 ?h2 ?h3 ?h4 ?_); (case h1 => assumption); (case h2 => walk_at "spl"); (case h3 => omega); (case h4 => omega); intro k H2 hk1 hk2 hh2)
  | ((with_reducible refine' g_size ?h1 ?h2 ?h3 ?h4 ?_); (case h1 => assumption); (case h2 => walk_at "spl"); (case h3 => omega); (case h4 => omega); intro k H2 hk1 hh2)
  | ((with_reducible refine' g_word ?h1 ?h2 ?_); (case h1 => assumption); (case h2 => walk_at "spl"); intro k H2 hk1 hh2))
local macro_rules | `(tactic| walk_at "g1") => `(tactic| first | with_reducible refine w_sl ?_ | with_reducible refine w_part ?_ | with_reducible refine w_noPart ?_ | with_reducible refine w_exI ?_)
section
variable {P : Program} {w : World} {K : PySem.W.Frag} {mg : Str → Option Value} {base : Heap} {aREG aOPS : Addr}
/-- every def of the text under its name -/
structure Defs (K : PySem.W.Frag) (mg : Str → Option Value) (C  : Addr) : Prop where
  is_integer : DefAt K mg "is_integer" s_is_integer
  is_in_range : DefAt K mg "is_in_range" s_is_in_range
  is_word : DefAt K mg "is_word" s_is_word
  ask_range : DefAt K mg "ask_range" s_ask_range
  ask_word : DefAt K mg "ask_word" s_ask_word
  mixed : DefAt K mg "_law_mixed" s__law_mixed
  store : DefAt K mg "_law_store" s__law_store
  take : DefAt K mg "_law_take" s__law_take
  pick : DefAt K mg "_law_pick" s__law_pick
  between : DefAt K mg "_law_between" s__law_between
  size : DefAt K mg "_law_size" s__law_size
  word : DefAt K mg "_law_word" s__law_word
  words : DefAt K mg "_law_words" s__law_words
  wrong_integer : DefAt K mg "_law_wrong_integer" s__law_wrong_integer
  alike : DefAt K mg "_law_alike" s__law_alike
  law_is_integer : DefAt K mg "_law_is_integer" s__law_is_integer
  refusal : DefAt K mg "_law_refusal" s__law_refusal
  called : DefAt K mg "_law_called" s__law_called
  drawn_call : DefAt K mg "_law_drawn_call" s__law_drawn_call
  due : DefAt K mg "_law_due" s__law_due
  shown : DefAt K mg "_law_shown" s__law_shown
  paired : DefAt K mg "_law_paired" s__law_paired
  step : DefAt K mg "_law_step" s__law_step
  refuses : DefAt K mg "_law_refuses" s__law_refuses
  m_send : MetAt K C "send" "Pipe.send" s_Pipe__send
  m_receive : MetAt K C "receive" "Pipe.receive" s_Pipe__receive
  p_room : PrpAt K C "room" "Pipe.room" s_Pipe__room
  p_size : PrpAt K C "size" "Pipe.size" s_Pipe__size
  p_sent : PrpAt K C "sent" "Pipe.sent" s_Pipe__sent
  p_received : PrpAt K C "received" "Pipe.received" s_Pipe__received
theorem all_law {C f fI fT CE W fBI : Addr} {fd fdI fdT fdBI : FuncData} (T : Txt K mg aREG aOPS) (L : PipC K C) (D : Defs K mg C) (dI : PiF K fI fdI) (mI : Mk K C fI) (gI : mg "Pipe" = some (.ref C))
    (dT : DefM K "__iter__" "Pipe.__iter__" s_Pipe____iter__ [] fT fdT) (mT : ItrC K C fT) (bT : mg "iter" = none)
    (F : FunT K "law" s_law f fd) (R : ErrC K mg CE W fBI) (dBI : DefM K "__init__" "BadArgument.__init__" s_BadArgument____init__ [] fBI fdBI) : FnOk P w K mg base CX0 8 f fd ["script"] (sp_law K) := by
  have mixed := c_mixed (P := P) (w := w) (base := base) T D.mixed
  have store := c_store (P := P) (w := w) (base := base) T D.store
  have take := c_take T D.take mixed
  have pick := c_pick T D.pick take
  have between := c_between T D.between take
  have size := c_size T D.size take
  have word := c_word T D.word take pick
  have words := c_words_ T D.words take word
  have wrongD := c_wrongD T D.wrong_integer take pick
  have alike := c_alikeB (P := P) (w := w) (base := base) T D.alike 3
  have int_ := c_integer (P := P) (w := w) (base := base) T D.is_integer
  have range := c_range T D.is_in_range int_
  have isword := c_isword T D.is_word range
  have ask := c_ask T D.ask_range range
  have askW := c_askW T D.ask_word isword
  have pip0 := c_pipI0 T L dI mI gI ask
  have pipK := ck_pipI T L dI mI gI ask
  have room := p_room (P := P) (w := w) (mg := mg) (base := base) L D.p_room
  have size_ := p_size (P := P) (w := w) (base := base) T L D.p_size
  have sent := p_sent (P := P) (w := w) (base := base) T L D.p_sent
  have received := p_received (P := P) (w := w) (mg := mg) (base := base) L D.p_received
  have send := c_send T L D.m_send askW
  have sendK := ck_send T L D.m_send askW
  have recv := c_recv (P := P) (w := w) (base := base) T L D.m_receive
  have itr := c_iter (P := P) (w := w) (base := base) T bT L dT mT
  have lisI := c_lisI (P := P) (w := w) (base := base) T D.law_is_integer
  have dcall := c_dcall T D.drawn_call take word wrongD
  have due := c_due T D.due lisI
  have askX := x_ask T R dBI D.ask_range range
  have askWX := x_askW T R dBI D.ask_word isword
  have sendX := x_send (C := C) T D.m_send askWX
  have pipX := x_pipI T dI mI gI askX
  obtain ⟨fE, fdE, FE, hmE⟩ := D.refusal
  have bE : Binds K fdE ["e"] [] := FunD.bindsN FE fun _ _ _ _ _ _ us hl => match us, hl with | [_], _ => rfl
  have called := c_called T R D.called send sendK recv sendX (e_err T R FE) hmE FE.kp bE
  have refuses := c_refuses T R D.refuses pipX (e_err T R FE) hmE FE.kp bE
  have step := c_step T D.step due called alike
  have shown := c_shown T D.shown room size_ sent received itr alike
  have paired := c_paired T D.paired itr alike
  exact c_law T gI F store take size between pip0 pipK words dcall step shown paired wrongD refuses
end
end K45
namespace K45
open PySem PySem.Spec PyProof.Rows L2 Wk
theorem facts_err {K : PySem.W.Frag} {h : Heap} {mg : Str → Option Value} (X : K.In h) (G : h.Ns mainGlobals mg) (c : errB K = true) : ErrC K mg (He.ga K "BadArgument") (He.ga K "WardError") (He.fAd K ("BadArgument", some "__init__")) := by
  obtain ⟨h1, c⟩ := He.ba c
  obtain ⟨h2, c⟩ := He.ba c
  obtain ⟨h3, c⟩ := He.ba c
  obtain ⟨h4, c⟩ := He.ba c
  obtain ⟨h5, c⟩ := He.ba c
  obtain ⟨h6, c⟩ := He.ba c
  obtain ⟨h7, c⟩ := He.ba c
  obtain ⟨h8, c⟩ := He.ba c
  obtain ⟨h9, c⟩ := He.ba c
  obtain ⟨h10, c⟩ := He.ba c
  obtain ⟨h11, c⟩ := He.ba c
  obtain ⟨h12, c⟩ := He.ba c
  obtain ⟨h13, c⟩ := He.ba c
  obtain ⟨h14, c⟩ := He.ba c
  obtain ⟨h15, c⟩ := He.ba c
  refine ⟨PySem.W.mg_of X G (He.eqO_ok h1), PySem.W.mg_of X G (He.eqO_ok h2), PySem.W.mg_none_of X G (He.eqO_ok h3), oexB_ok h4, L2.xfB_ok h5, excB_ok h6, He.eqO_ok h7, He.eqO_ok h8, of_decide_eq_true h9, He.eqO_ok h10, wrB_ok h11, of_decide_eq_true h12, of_decide_eq_true h13, of_decide_eq_true h14, of_decide_eq_true h15, fun x hx => ?_⟩
  obtain ⟨z1, z2⟩ := He.ba (List.all_eq_true.mp c x hx)
  exact ⟨_, PySem.W.mg_of X G (He.eqO_ok z1), of_decide_eq_true z2⟩
theorem facts {P : Program} {w : World} {K : PySem.W.Frag} {h : Heap} {mg : Str → Option Value} {f : Addr} (X : K.In h) (G : h.Ns mainGlobals mg) (hfa : mg ("law" : Str) = some (.ref f)) (c : He.SaysX fa fn [] tf ex w h K) (cg : He5.SaysA [] axs K) :
    ∃ fd : FuncData, (∀ (s : Shared) (v : Value), BindsTo s fd ⟨[v], []⟩ [("script", v)]) ∧ ∀ base : Heap, FnOk P w K mg base CX0 8 f fd ["script"] (sp_law K) := by
  have cm := c.more
  obtain ⟨xp_room, cm⟩ := He.ba cm
  obtain ⟨xp_size, cm⟩ := He.ba cm
  obtain ⟨xp_sent, cm⟩ := He.ba cm
  obtain ⟨xp_received, cm⟩ := He.ba cm
  obtain ⟨xit1, cm⟩ := He.ba cm
  obtain ⟨xit2, x6⟩ := He.ba cm
  obtain ⟨fd_is_integer, F_is_integer⟩ := c.t.d.def_ 0 (d := d_is_integer) rfl
  obtain ⟨fd_is_in_range, F_is_in_range⟩ := c.t.d.def_ 1 (d := d_is_in_range) rfl
  obtain ⟨fd_is_word, F_is_word⟩ := c.t.d.def_ 2 (d := d_is_word) rfl
  obtain ⟨fd_ask_range, F_ask_range⟩ := c.t.d.def_ 3 (d := d_ask_range) rfl
  obtain ⟨fd_ask_word, F_ask_word⟩ := c.t.d.def_ 4 (d := d_ask_word) rfl
  obtain ⟨fd__law_mixed, F__law_mixed⟩ := c.t.d.def_ 5 (d := d__law_mixed) rfl
  obtain ⟨fd__law_store, F__law_store⟩ := c.t.d.def_ 6 (d := d__law_store) rfl
  obtain ⟨fd__law_take, F__law_take⟩ := c.t.d.def_ 7 (d := d__law_take) rfl
  obtain ⟨fd__law_pick, F__law_pick⟩ := c.t.d.def_ 8 (d := d__law_pick) rfl
  obtain ⟨fd__law_between, F__law_between⟩ := c.t.d.def_ 9 (d := d__law_between) rfl
  obtain ⟨fd__law_size, F__law_size⟩ := c.t.d.def_ 10 (d := d__law_size) rfl
  obtain ⟨fd__law_word, F__law_word⟩ := c.t.d.def_ 11 (d := d__law_word) rfl
  obtain ⟨fd__law_words, F__law_words⟩ := c.t.d.def_ 12 (d := d__law_words) rfl
  obtain ⟨fd__law_wrong_integer, F__law_wrong_integer⟩ := c.t.d.def_ 13 (d := d__law_wrong_integer) rfl
  obtain ⟨fd__law_alike, F__law_alike⟩ := c.t.d.def_ 14 (d := d__law_alike) rfl
  obtain ⟨fd__law_is_integer, F__law_is_integer⟩ := c.t.d.def_ 15 (d := d__law_is_integer) rfl
  obtain ⟨fd__law_refusal, F__law_refusal⟩ := c.t.d.def_ 16 (d := d__law_refusal) rfl
  obtain ⟨fd__law_called, F__law_called⟩ := c.t.d.def_ 17 (d := d__law_called) rfl
  obtain ⟨fd__law_drawn_call, F__law_drawn_call⟩ := c.t.d.def_ 18 (d := d__law_drawn_call) rfl
  obtain ⟨fd__law_due, F__law_due⟩ := c.t.d.def_ 19 (d := d__law_due) rfl
  obtain ⟨fd__law_shown, F__law_shown⟩ := c.t.d.def_ 20 (d := d__law_shown) rfl
  obtain ⟨fd__law_paired, F__law_paired⟩ := c.t.d.def_ 21 (d := d__law_paired) rfl
  obtain ⟨fd__law_step, F__law_step⟩ := c.t.d.def_ 22 (d := d__law_step) rfl
  obtain ⟨fd__law_refuses, F__law_refuses⟩ := c.t.d.def_ 23 (d := d__law_refuses) rfl
  obtain ⟨fd_law, F_law⟩ := c.t.d.def_ 24 (d := d_law) rfl
  obtain ⟨fdM_send, FM_send⟩ := c.t.d.def_ 25 (d := d_M_send) rfl
  obtain ⟨fdM_receive, FM_receive⟩ := c.t.d.def_ 26 (d := d_M_receive) rfl
  obtain ⟨fdM___iter__, FM___iter__⟩ := c.t.d.def_ 27 (d := d_M___iter__) rfl
  obtain ⟨fdM___init__, FM___init__⟩ := c.t.d.def_ 28 (d := d_M___init__) rfl
  obtain ⟨fdS_room, FS_room⟩ := cg.def_ 0 (d := d_S_room) rfl
  obtain ⟨fdS_size, FS_size⟩ := cg.def_ 1 (d := d_S_size) rfl
  obtain ⟨fdS_sent, FS_sent⟩ := cg.def_ 2 (d := d_S_sent) rfl
  obtain ⟨fdS_received, FS_received⟩ := cg.def_ 3 (d := d_S_received) rfl
  obtain ⟨fdB_init, FB_init⟩ := c.t.d.def_ 29 (d := d_B_init) rfl
  have e := hfa.symm.trans (He.glo_ok X G (c.t.d.fact 24 (f := .glo "law") rfl))
  cases e
  have b := FunD.bindsA (ps := ["script"]) F_law fun _ _ _ _ _ _ us hl => match us, hl with | [_], _ => rfl
  have T : Txt K mg 0 0 := ⟨⟨He.free_ok X G (c.t.d.fact 35 (f := .free "int") rfl), He.free_ok X G (c.t.d.fact 36 (f := .free "len") rfl), He.free_ok X G (c.t.d.fact 37 (f := .free "range") rfl), He.free_ok X G (c.t.d.fact 38 (f := .free "list") rfl), He.free_ok X G (c.t.d.fact 39 (f := .free "abs") rfl), He.free_ok X G (c.t.d.fact 40 (f := .free "min") rfl), He.free_ok X G (c.t.d.fact 41 (f := .free "max") rfl), He.free_ok X G (c.t.d.fact 42 (f := .free "isinstance") rfl), He.free_ok X G (c.t.d.fact 43 (f := .free "bool") rfl), He.free_ok X G (c.t.d.fact 44 (f := .free "str") rfl), He.free_ok X G (c.t.d.fact 45 (f := .free "tuple") rfl), He.free_ok X G (c.t.d.fact 46 (f := .free "dict") rfl), He.free_ok X G (c.t.d.fact 47 (f := .free "sorted") rfl), He.free_ok X G (c.t.d.fact 48 (f := .free "all") rfl), He.free_ok X G (c.t.d.fact 49 (f := .free "any") rfl), He.free_ok X G (c.t.d.fact 50 (f := .free "zip") rfl), He.free_ok X G (c.t.d.fact 51 (f := .free "enumerate") rfl), He.free_ok X G (c.t.d.fact 52 (f := .free "sum") rfl)⟩,
    let ⟨t, e⟩ := He.int_ok X G (c.t.d.fact 25 (f := .int "WORDS" 65536) rfl); ⟨_, e, ⟨t, rfl⟩⟩⟩
  have cl := He.cls_ok (c.t.d.fact 27 (f := .cls "Pipe") rfl)
  have L : PipC K (He.ga K "Pipe") := ⟨cl, He.noat_ok (c.t.d.fact 28 (f := .noat "Pipe" "_room") rfl), He.noat_ok (c.t.d.fact 29 (f := .noat "Pipe" "_words") rfl), He.noat_ok (c.t.d.fact 30 (f := .noat "Pipe" "_taken") rfl)⟩
  have D : Defs K mg (He.ga K "Pipe")  := ⟨
    ⟨_, _, F_is_integer, He.glo_ok X G (c.t.d.fact 0 (f := .glo "is_integer") rfl)⟩,
    ⟨_, _, F_is_in_range, He.glo_ok X G (c.t.d.fact 1 (f := .glo "is_in_range") rfl)⟩,
    ⟨_, _, F_is_word, He.glo_ok X G (c.t.d.fact 2 (f := .glo "is_word") rfl)⟩,
    ⟨_, _, F_ask_range, He.glo_ok X G (c.t.d.fact 3 (f := .glo "ask_range") rfl)⟩,
    ⟨_, _, F_ask_word, He.glo_ok X G (c.t.d.fact 4 (f := .glo "ask_word") rfl)⟩,
    ⟨_, _, F__law_mixed, He.glo_ok X G (c.t.d.fact 5 (f := .glo "_law_mixed") rfl)⟩,
    ⟨_, _, F__law_store, He.glo_ok X G (c.t.d.fact 6 (f := .glo "_law_store") rfl)⟩,
    ⟨_, _, F__law_take, He.glo_ok X G (c.t.d.fact 7 (f := .glo "_law_take") rfl)⟩,
    ⟨_, _, F__law_pick, He.glo_ok X G (c.t.d.fact 8 (f := .glo "_law_pick") rfl)⟩,
    ⟨_, _, F__law_between, He.glo_ok X G (c.t.d.fact 9 (f := .glo "_law_between") rfl)⟩,
    ⟨_, _, F__law_size, He.glo_ok X G (c.t.d.fact 10 (f := .glo "_law_size") rfl)⟩,
    ⟨_, _, F__law_word, He.glo_ok X G (c.t.d.fact 11 (f := .glo "_law_word") rfl)⟩,
    ⟨_, _, F__law_words, He.glo_ok X G (c.t.d.fact 12 (f := .glo "_law_words") rfl)⟩,
    ⟨_, _, F__law_wrong_integer, He.glo_ok X G (c.t.d.fact 13 (f := .glo "_law_wrong_integer") rfl)⟩,
    ⟨_, _, F__law_alike, He.glo_ok X G (c.t.d.fact 14 (f := .glo "_law_alike") rfl)⟩,
    ⟨_, _, F__law_is_integer, He.glo_ok X G (c.t.d.fact 15 (f := .glo "_law_is_integer") rfl)⟩,
    ⟨_, _, F__law_refusal, He.glo_ok X G (c.t.d.fact 16 (f := .glo "_law_refusal") rfl)⟩,
    ⟨_, _, F__law_called, He.glo_ok X G (c.t.d.fact 17 (f := .glo "_law_called") rfl)⟩,
    ⟨_, _, F__law_drawn_call, He.glo_ok X G (c.t.d.fact 18 (f := .glo "_law_drawn_call") rfl)⟩,
    ⟨_, _, F__law_due, He.glo_ok X G (c.t.d.fact 19 (f := .glo "_law_due") rfl)⟩,
    ⟨_, _, F__law_shown, He.glo_ok X G (c.t.d.fact 20 (f := .glo "_law_shown") rfl)⟩,
    ⟨_, _, F__law_paired, He.glo_ok X G (c.t.d.fact 21 (f := .glo "_law_paired") rfl)⟩,
    ⟨_, _, F__law_step, He.glo_ok X G (c.t.d.fact 22 (f := .glo "_law_step") rfl)⟩,
    ⟨_, _, F__law_refuses, He.glo_ok X G (c.t.d.fact 23 (f := .glo "_law_refuses") rfl)⟩,
    ⟨_, _, FM_send, cl, He.meth_ok (c.t.d.fact 32 (f := .meth "Pipe" "send") rfl)⟩,
    ⟨_, _, FM_receive, cl, He.meth_ok (c.t.d.fact 33 (f := .meth "Pipe" "receive") rfl)⟩,
    ⟨_, _, _, FS_room, cl, prB_ok xp_room⟩,
    ⟨_, _, _, FS_size, cl, prB_ok xp_size⟩,
    ⟨_, _, _, FS_sent, cl, prB_ok xp_sent⟩,
    ⟨_, _, _, FS_received, cl, prB_ok xp_received⟩⟩
  refine ⟨fd_law, fun s v => b s [v] rfl, fun base  => ?_⟩
  exact all_law T  L D FM___init__ (He.mkr_ok (c.t.d.fact 31 (f := .mkr "Pipe") rfl)) (He.glo_ok X G (c.t.d.fact 26 (f := .glo "Pipe") rfl)) FM___iter__ ⟨(He.meth_ok (c.t.d.fact 34 (f := .meth "Pipe" "__iter__") rfl)).at_, (He.meth_ok (c.t.d.fact 34 (f := .meth "Pipe" "__iter__") rfl)).fn, He.eqO_ok xit1, He.eqO_ok xit2⟩ (He.free_ok X G (c.t.d.fact 53 (f := .free "iter") rfl)) F_law (facts_err X G x6) FB_init
end K45
open PySem PySem.W PySem.Calls PyProof.Rows
theorem PySem.Challenge.cw_wardwork_k45_pipe_in_order_holds : PySem.Challenge.rw_wardwork_k45_pipe_in_order.Holds := by
  w_on; o_law
  refine HandSHeadRun.head_any (r := OpenLaw.row PySem.Challenge.rw_wardwork_k45_pipe_in_order) (q := view (OpenLaw.row PySem.Challenge.rw_wardwork_k45_pipe_in_order).prog [41]) (H := K45.hookY) (ob := K45.ob) (M := 20000) (loose := K45.loose) (d := HandSHeadRun.topDef (OpenLaw.row PySem.Challenge.rw_wardwork_k45_pipe_in_order).prog 41) (kwd := []) K45.ob_eq
    (by kernel_rfl) (fun s => by kernel_rfl) K45.run (by kernel_rfl) (by kernel_rfl) (by kernel_rfl) (by rfl) (by first | assumption | decide +kernel) (by decide +kernel) ⟨rfl, rfl, rfl, rfl, rfl, by decide +kernel⟩ ?hw ?hc
  case hw => w_witness2
  case hc =>
    refine LamX.walk_ofTsE (l := PySem.Challenge.rw_wardwork_k45_pipe_in_order) (n := 63) (k := 8) (x := "script") (CX := fun _ => C8.CX0) rfl (by decide) (by kernel_rfl) ⟨rfl, by decide, by decide⟩ ?F (fun _ _ _ _ _ z => z)
    intro w mg fa h Y G hmg0
    obtain ⟨K, KX, c, cg⟩ := Y
    have hmg : mg ("law" : PySem.Str) = some (.ref fa) := by
      have e : (HandSHeadRun.topDef (OpenLaw.row PySem.Challenge.rw_wardwork_k45_pipe_in_order).prog 41).name = ("law" : PySem.Str) := by kernel_rfl
      rw [← e]
      exact hmg0
    obtain ⟨fd, hb, hF⟩ := K45.facts (P := (PySem.Challenge.rw_wardwork_k45_pipe_in_order).prog) (w := w) KX G hmg c cg
    refine ⟨K, KX, fd, [], K45.sp_law K, fun p hp => ?_, fun p hp => ?_, fun p hp => ?_, hb, fun H a ns hl _ hT hS => ⟨a, ns, rfl, hS, hl, fun _ => rfl⟩, fun base _ _ hTB => ?_⟩
    · cases hp
    · cases hp
    · cases hp
    · exact hF base
