import PyProof.Rows.All
import Wide.All
import OpenK.AllK
import Wide.FinOn
import HandS.AnyAll
import HandS.Codes
import HandS.Conv
import HandS.Defaults
import HandS.Ends
import HandS.Evl
import HandS.ExcField
import HandS.ExcInit
import HandS.ExcIs
import HandS.ExcOwn
import HandS.FStr
import HandS.ForMost
import HandS.Head0
import HandS.Head1
import HandS.Head2
import HandS.HeadEnd
import HandS.HeadHook1
import HandS.HeadHook2
import HandS.HeadHook3
import HandS.HeadHook4
import HandS.HeadNt
import HandS.HeadWalk
import HandS.HotCalls
import HandS.IsInst
import HandS.IterVal
import HandS.MakeKw
import HandS.MakeKwOnly
import HandS.More
import HandS.OwnIter
import HandS.Property
import HandS.SortInts
import HandS.SortKw
import HandS.Star
import HandS.Steps
import HandS.Strs
import HandS.Walk
import HandS.Wide
import HandS.Words
import HandS.WordsExc
import KE.KExcIs
import KE.KMinKey
import KE.KOpsOwn
import OpenK.KMeth
import PyProof.MaxThree
import PySem.Challenge.RW_wardwork_k05_whole_holds_are_pages
set_option Elab.async false
set_option linter.all false
set_option maxRecDepth 100000
set_option maxHeartbeats 4000000
/-! Wk: rules that the layer lacks, and steps that read a term from the left. -/
namespace Wk
open PySem PySem.Spec PyProof.Rows L2

/-! ### rules -/
section
variable {X : Cx}
theorem get_list : PGet X (rIxL X.K) := by
  intro pins s σ H o i ov iv Q I ro ri h
  obtain ⟨p, xs, k, z, rfl, rfl, hq, he, q⟩ := h
  cases ro
  obtain ⟨t, rfl⟩ := ri
  obtain ⟨its, r, pl, hz⟩ := I.list hq
  obtain ⟨j, e1, e2, e3, e4, e5⟩ := atI_get he
  obtain ⟨w, ew, rw'⟩ := r.get e2
  have hl := r.length
  have hn := line63
  have done : EP X pins σ Q w s := ⟨z, H, I, rw', q⟩
  by_cases h0 : 0 ≤ k
  · have hj : k.toNat = j := by
      rw [seqIndex_of h0 e5] at e1
      exact Option.some.inj e1
    exact wpAny_getItem_list pl.isList h0 (by omega) (by rw [hj]; simpa using ew) done
  · have hj : (k + (its.toArray.size : Int)).toNat = j := by
      rw [seqIndex_neg (by omega) e4] at e1
      rw [List.size_toArray, ← hl]
      exact Option.some.inj e1
    exact wpAny_getItem_list_neg pl.isList (by omega) (by rw [List.size_toArray] <;> omega) (by omega) (by rw [hj]; simpa using ew) done
end

/-- the built-in names that the module leaves as they are -/
structure Bt (mg : Str → Option Value) : Prop where
  b_int : mg "int" = none
  b_len : mg "len" = none
  b_range : mg "range" = none
  b_list : mg "list" = none
  b_abs : mg "abs" = none
  b_min : mg "min" = none
  b_max : mg "max" = none
  b_isinstance : mg "isinstance" = none
  b_bool : mg "bool" = none
  b_str : mg "str" = none
  b_tuple : mg "tuple" = none
  b_dict : mg "dict" = none
  b_sorted : mg "sorted" = none
  b_all : mg "all" = none
  b_any : mg "any" = none
  b_zip : mg "zip" = none
  b_enumerate : mg "enumerate" = none
  b_sum : mg "sum" = none
/-! ### heaps: how they may change -/
/-- all that H knows outside S stands in H' -/
def Upt (S : List Addr) (H H' : Hp) : Prop := ∀ b o, b ∉ S → H b = some o → H' b = some o
theorem Upt.refl {S : List Addr} (H : Hp) : Upt S H H := fun _ _ _ h => h
theorem Upt.trans {S : List Addr} {H H1 H2 : Hp} (a : Upt S H H1) (b : Upt S H1 H2) : Upt S H H2 := fun c o n h => b c o n (a c o n h)
theorem Upt.mono {S T : List Addr} {H H1 : Hp} (h : ∀ b ∈ S, b ∈ T) (a : Upt S H H1) : Upt T H H1 := fun c o n e => a c o (fun z => n (h c z)) e
theorem Upt.at1 {s b : Addr} {o : HO} {H H1 : Hp} (a : Upt [s] H H1) (n : b ≠ s) (e : H b = some o) : H1 b = some o := a b o (fun z => n (List.mem_singleton.mp z)) e
theorem Upt.at0 {b : Addr} {o : HO} {H H1 : Hp} (a : Upt [] H H1) (e : H b = some o) : H1 b = some o := a b o (fun z => by cases z) e
theorem Upt.free {S : List Addr} {H H1 : Hp} {b : Addr} (a : Upt S H H1) (n : b ∉ S) (e : H1 b = none) : H b = none := by
  cases q : H b with
  | none => rfl
  | some o => rw [a b o n q] at e; cases e
theorem Upt.upd {s : Addr} {o : HO} {H : Hp} : Upt [s] H (upd H s o) := fun b u n e => by
  rw [upd_ne (fun z => n (List.mem_singleton.mpr z))]; exact e
theorem Upt.seqL {S : List Addr} {K : PySem.W.Frag} {H H1 : Hp} {a : Addr} {xs : List V} (u : Upt S H H1) (n : a ∉ S) (h : SqL K H a xs) : SqL K H1 a xs := by
  rcases h with (h | ⟨o, h⟩) | h
  · exact .inl (.inl (u _ _ n h))
  · exact .inl (.inr ⟨o, u _ _ n h⟩)
  · exact .inr h
theorem Upt.seqT {S : List Addr} {K : PySem.W.Frag} {H H1 : Hp} {a : Addr} {xs : List V} (u : Upt S H H1) (n : a ∉ S) (h : SqT K H a xs) : SqT K H1 a xs := by
  rcases h with (h | ⟨o, h⟩) | h
  · exact .inl (.inl (u _ _ n h))
  · exact .inl (.inr ⟨o, u _ _ n h⟩)
  · exact .inr h
theorem _root_.L2.SqL.upt {K : PySem.W.Frag} {H H1 : Hp} {a : Addr} {xs : List V} (h : SqL K H a xs) (u : Upt [] H H1) : SqL K H1 a xs := u.seqL (by simp) h
theorem _root_.L2.SqT.upt {K : PySem.W.Frag} {H H1 : Hp} {a : Addr} {xs : List V} (h : SqT K H a xs) (u : Upt [] H H1) : SqT K H1 a xs := u.seqT (by simp) h
/-- o is new at p -/
structure New (H H' : Hp) (p : Addr) (o : HO) : Prop where
  no : H p = none
  at_ : H' p = some o
  keep : Upt [] H H'
theorem New.of {H : Hp} {p : Addr} {o : HO} (h : H p = none) : New H (upd H p o) p o := ⟨h, upd_same, fun b u _ e => by rw [upd_ne (ne_of_none e h)]; exact e⟩
theorem New.ne {H H' : Hp} {p b : Addr} {o u : HO} (n : New H H' p o) (h : H b = some u) : b ≠ p := ne_of_none h n.no
theorem New.ne' {H H' : Hp} {p b : Addr} {o u : HO} (n : New H H' p o) (h : H b = some u) : p ≠ b := Ne.symm (n.ne h)
/-- o stands at l now, nothing else has changed -/
structure Chg (H H' : Hp) (l : Addr) (o : HO) : Prop where
  at_ : H' l = some o
  keep : Upt [l] H H'
theorem Chg.of {H : Hp} {p : Addr} {o : HO} : Chg H (upd H p o) p o := ⟨upd_same, Upt.upd⟩

/-! ### steps -/
section
variable {K : PySem.W.Frag} {σ : L2.St} {H : Hp} {Q : VK} {QA : List V → Hp → Prop} {QT : Bool → Hp → Prop} {ta tb tc te tv : TE} {tt tu : TT} {t tr : TA} {u1 u2 : TS} {D : Ends} {v x y : V} {i j : Int} {r : R2}
theorem w_var {n : Nat} (h : σ[n]? = some (some v)) (q : Q v H) : tVar n σ H Q := ⟨v, h, q⟩
theorem w_c (q : Q v H) : tC v σ H Q := q
theorem w_op (h : ta σ H fun x H1 => tb σ H1 fun y H2 => r x y H2 Q) : tOp r ta tb σ H Q := h
theorem w_un {g : V → Hp → VK → Prop} (h : ta σ H fun x H1 => g x H1 Q) : tUn g ta σ H Q := h
theorem w_I0 {g : Int → Int → V} (q : Q (g i j) H) : rI0 g (.int i) (.int j) H Q := ⟨i, j, rfl, rfl, q⟩
theorem w_I {C : Int → Int → Prop} {g : Int → Int → V} (c : C i j) (q : Q (g i j) H) : rI C g (.int i) (.int j) H Q := ⟨i, j, rfl, rfl, c, q⟩
theorem w_U {g : Int → V} (q : Q (g i) H) : rU g (.int i) H Q := ⟨i, rfl, q⟩
theorem w_eq (h : scal x y = true) (q : Q (.bl (decide (x = y))) H) : rEq x y H Q := ⟨h, q⟩
theorem w_ne (h : scal x y = true) (q : Q (.bl (!decide (x = y))) H) : rNe x y H Q := ⟨h, q⟩
theorem dec_int (i j : Int) : decide (V.int i = V.int j) = decide (i = j) := by
  by_cases h : i = j
  · subst h; simp
  · rw [decide_eq_false h, decide_eq_false (fun e => h (V.int.inj e))]
theorem dec_str (i j : Str) : decide (V.str i = V.str j) = decide (i = j) := by
  by_cases h : i = j
  · subst h; simp
  · rw [decide_eq_false h, decide_eq_false (fun e => h (V.str.inj e))]
theorem w_eqI (q : Q (.bl (decide (i = j))) H) : rEq (.int i) (.int j) H Q := ⟨rfl, by rw [dec_int]; exact q⟩
theorem w_neI (q : Q (.bl (!decide (i = j))) H) : rNe (.int i) (.int j) H Q := ⟨rfl, by rw [dec_int]; exact q⟩
theorem w_eqS {a b : Str} (q : Q (.bl (decide (a = b))) H) : rEq (.str a) (.str b) H Q := ⟨rfl, by rw [dec_str]; exact q⟩
theorem w_neS {a b : Str} (q : Q (.bl (!decide (a = b))) H) : rNe (.str a) (.str b) H Q := ⟨rfl, by rw [dec_str]; exact q⟩
theorem w_test (h : te σ H fun x H' => ∃ k, x = .bl k ∧ QT k H') : tTest te σ H QT := h
theorem w_tB (h : te σ H fun x H' => ∃ k, x = .bl k ∧ QT k H') : tB te σ H QT := h
theorem w_k {b : Bool} {P : Bool → Prop} (q : P b) : ∃ k, V.bl b = .bl k ∧ P k := ⟨b, rfl, q⟩
theorem w_not (h : tt σ H fun c H1 => QT (!c) H1) : tNot tt σ H QT := h
theorem w_and (h : tt σ H fun c H1 => if c = true then tu σ H1 QT else QT false H1) : tAnd tt tu σ H QT := h
theorem w_or (h : tt σ H fun c H1 => if c = true then QT true H1 else tu σ H1 QT) : tOr tt tu σ H QT := h
theorem w_andV (h : ta σ H fun x H1 => ∃ c, x = .bl c ∧ if c = true then tb σ H1 Q else Q (.bl false) H1) : tAndV ta tb σ H Q := h
theorem w_orV (h : ta σ H fun x H1 => ∃ c, x = .bl c ∧ if c = true then Q (.bl true) H1 else tb σ H1 Q) : tOrV ta tb σ H Q := h
theorem w_notV (h : ta σ H fun x H1 => ∃ c, x = .bl c ∧ Q (.bl (!c)) H1) : tNotV ta σ H Q := h
theorem w_ifE (h : tt σ H fun c H1 => if c = true then ta σ H1 Q else tb σ H1 Q) : tIf tt ta tb σ H Q := h
theorem w_next (h : D.nx σ H) : tNext D σ H := h
theorem w_seq (h : u1 { D with nx := u2 D } σ H) : tSeq u1 u2 D σ H := h
theorem w_ifS (h : tt σ H fun b H1 => if b = true then u1 D σ H1 else u2 D σ H1) : tIfS tt u1 u2 D σ H := h
theorem w_ret (h : te σ H D.rt) : tRet te D σ H := h
theorem w_retN (h : D.rt .non H) : tRetN D σ H := h
theorem w_drop (h : te σ H fun _ H1 => D.nx σ H1) : tDrop te D σ H := h
theorem w_set {n : Nat} (h : te σ H fun x H1 => D.nx (σ.set n (some x)) H1) : tAsg te (gName n) D σ H := h
theorem w_asg {g : TG} (h : te σ H fun x H1 => g x σ H1 D.nx) : tAsg te g D σ H := h
theorem w_nil (q : QA [] H) : tNil σ H QA := q
theorem w_cons (h : ta σ H fun x H1 => tr σ H1 fun xs H2 => QA (x :: xs) H2) : tCons ta tr σ H QA := h
/-- a new object, and what follows with its address -/
def KNew (n : Nat) (H : Hp) (o : HO) (Q : VK) : Prop := n ≤ sizeLine ∧ ∀ p, H p = none → Q (.ref p) (upd H p o)
theorem w_tup (h : t σ H fun xs H1 => KNew xs.length H1 (.tup xs) Q) : tTup t σ H Q := h
theorem w_lst (h : t σ H fun xs H1 => KNew xs.length H1 (.lst xs) Q) : tLst t σ H Q := h
theorem w_new {n : Nat} {o : HO} (hs : n ≤ sizeLine) (h : ∀ p H2, New H H2 p o → Q (.ref p) H2) : KNew n H o Q := ⟨hs, fun p hp => h p _ (New.of hp)⟩
theorem w_dnew (h : ∀ p H2, New H H2 p (.dK []) → Q (.ref p) H2) : tDNewK σ H Q := fun p hp => h p _ (New.of hp)
/-- an attribute read -/
def KFld (K : PySem.W.Frag) (f : Str) (x : V) (H : Hp) (Q : VK) : Prop := ∃ a C dx fs v, x = .ref a ∧ H a = some (.ins C dx fs) ∧ Cls K C ∧ NoAttr K C f ∧ fs.lookup f = some v ∧ Q v H
theorem w_fld {f : Str} (h : ta σ H fun x H1 => KFld K f x H1 Q) : tFld K ta f σ H Q := h
theorem w_kfld {f : Str} {a C dx : Addr} {fs : List (Str × V)} (ho : H a = some (.ins C dx fs)) (c : Cls K C) (n : NoAttr K C f) (l : fs.lookup f = some v) (q : Q v H) : KFld K f (.ref a) H Q := ⟨a, C, dx, fs, v, rfl, ho, c, n, l, q⟩
/-- calls of built-ins -/
def CB (g : List V → Hp → VK → Prop) (vs : List V) (H : Hp) (Q : VK) : Prop := g vs H Q
theorem w_cb {g : List V → Hp → VK → Prop} (h : t σ H fun vs H1 => CB g vs H1 Q) : tCB g t σ H Q := h
/-- calls of defs -/
theorem w_call {sp : Sp} {E : XK} (h : t σ H fun vs H1 => sp vs H1 Q E) : tCall sp [] E t σ H Q := by
  show t σ H fun vs H1 => sp (vs ++ []) H1 Q E
  simpa only [List.append_nil] using h
theorem w_callD {sp : Sp} {E : XK} {dvs : List V} (h : t σ H fun vs H1 => sp (vs ++ dvs) H1 Q E) : tCall sp dvs E t σ H Q := h
/-- methods of lists, texts -/
def KBM (K : PySem.W.Frag) (T : String) (g : V → List V → Hp → VK → Prop) (t : TA) (σ : L2.St) (x : V) (H : Hp) (Q : VK) : Prop := tyV K T x H ∧ t σ H fun xs H2 => g x xs H2 Q
theorem w_bm {T : String} {g : V → List V → Hp → VK → Prop} (h : ta σ H fun x H1 => KBM K T g t σ x H1 Q) : tBM K T g ta t σ H Q := h
theorem w_kbm {T : String} {g : V → List V → Hp → VK → Prop} (ty : tyV K T x H) (h : t σ H fun xs H2 => g x xs H2 Q) : KBM K T g t σ x H Q := ⟨ty, h⟩
def KBM0 (K : PySem.W.Frag) (T : String) (g : V → List V → Hp → VK → Prop) (x : V) (H : Hp) (Q : VK) : Prop := tyV K T x H ∧ g x [] H Q
theorem w_bm0 {T : String} {g : V → List V → Hp → VK → Prop} (h : ta σ H fun x H1 => KBM0 K T g x H1 Q) : tBM0 K T g ta σ H Q := h
theorem w_kbm0 {T : String} {g : V → List V → Hp → VK → Prop} (ty : tyV K T x H) (h : g x [] H Q) : KBM0 K T g x H Q := ⟨ty, h⟩
theorem ty_list {p : Addr} {xs : List V} (h : SqL K H p xs) : tyV K "list" (.ref p) H := Or.inl ⟨rfl, _, h⟩
theorem w_append {l : Addr} {xs : List V} (h : H l = some (.lst xs)) (hz : xs.length < sizeLine) (q : ∀ H2, Chg H H2 l (.lst (xs ++ [y])) → Q .non H2) : rAppend (.ref l) [y] H Q := ⟨l, xs, y, rfl, rfl, h, hz, q _ Chg.of⟩
theorem w_popAt {l : Addr} {xs : List V} {n : Nat} (h : H l = some (.lst xs)) (hn : n < xs.length) (hb : n < 2 ^ 62) (hv : xs[n]? = some y) (q : ∀ H2, Chg H H2 l (.lst (xs.eraseIdx n)) → Q y H2) : rPopAt (.ref l) [.int (n : Int)] H Q :=
  ⟨l, xs, (n : Int), n, y, rfl, rfl, h, by omega, by omega, by rw [seqIndex_of (by omega) (by omega)]; simp, hv, q _ Chg.of⟩
/-- items -/
theorem w_ixL {p : Addr} {xs : List V} (h : SqL K H p xs) (ha : atI xs i = some v) (q : Q v H) : rIxL K (.ref p) (.int i) H Q := ⟨p, xs, i, v, rfl, rfl, h, ha, q⟩
theorem w_ixT {p : Addr} {xs : List V} (h : SqT K H p xs) (ha : atI xs i = some v) (q : Q v H) : rIxT K (.ref p) (.int i) H Q := ⟨p, xs, i, v, rfl, rfl, h, ha, q⟩
theorem w_ixS {z : Str} {c : Nat} (hz : z.length ≤ sizeLine) (ha : atI z.cps.toList i = some c) (q : Q (.str ⟨#[c]⟩) H) : rIxS (.str z) (.int i) H Q := ⟨z, i, c, rfl, rfl, hz, ha, q⟩
theorem w_setI {p : Addr} {xs : List V} {n : Nat} {P : Hp → Prop} (h : H p = some (.lst xs)) (hn : ixN xs.length i = some n) (q : ∀ H2, Chg H H2 p (.lst (xs.set n v)) → P H2) : rSetL (.ref p) (.int i) v H P := ⟨p, xs, i, n, rfl, rfl, h, hn, q _ Chg.of⟩
theorem w_gsub {t0 t1 : TE} {ts : TSet} {P : L2.St → Hp → Prop} (h : t0 σ H fun o H1 => t1 σ H1 fun i H2 => ts o i v H2 fun H3 => P σ H3) : gSub t0 t1 ts v σ H P := h
theorem w_aug {n : Nat} {ti : TIp} (hx : σ[n]? = some (some x)) (h : te σ H fun y H1 => ti x y H1 fun z H2 => D.nx (σ.set n (some z)) H2) : tAug n te ti D σ H := ⟨x, hx, h⟩
theorem w_augS {t0 t1 : TE} {tg : V → V → Hp → VK → Prop} {ti : TIp} {ts : TSet} (h : t0 σ H fun o H1 => t1 σ H1 fun i H2 => tg o i H2 fun x H3 => te σ H3 fun y H4 => ti x y H4 fun z H5 => ts o i z H5 fun H6 => D.nx σ H6) : tAugS t0 t1 te tg ti ts D σ H := h
theorem w_ipI {f : Int → Int → Int} (q : Q (.int (f i j)) H) : ipI f (.int i) (.int j) H Q := ⟨i, j, rfl, rfl, q⟩
theorem w_ixAny {p : Addr} {xs : List V} (h : SqL K H p xs ∨ SqT K H p xs) (ha : atI xs i = some v) (q : Q v H) : rIx K (.ref p) (.int i) H Q := by
  rcases h with h | h
  · exact .inl (w_ixL h ha q)
  · exact .inr (.inl (w_ixT h ha q))
theorem w_ixAnyS {z : Str} {c : Nat} (hz : z.length ≤ sizeLine) (ha : atI z.cps.toList i = some c) (q : Q (.str ⟨#[c]⟩) H) : rIx K (.str z) (.int i) H Q := .inr (.inr (w_ixS hz ha q))
/-- ways -/
theorem w_ite {p : Prop} [Decidable p] {A B : Prop} (h1 : p → A) (h2 : ¬ p → B) : if decide p = true then A else B := by
  by_cases h : p
  · rw [decide_eq_true h]; exact h1 h
  · rw [decide_eq_false h]; exact h2 h
theorem w_iteN {p : Prop} [Decidable p] {A B : Prop} (h1 : ¬ p → A) (h2 : p → B) : if (!decide p) = true then A else B := by
  by_cases h : p
  · rw [decide_eq_true h]; exact h2 h
  · rw [decide_eq_false h]; exact h1 h
theorem w_iteT {p : Prop} [Decidable p] {A B : Prop} (hp : p) (h : A) : if decide p = true then A else B := by rw [decide_eq_true hp]; exact h
theorem w_iteF {p : Prop} [Decidable p] {A B : Prop} (hp : ¬ p) (h : B) : if decide p = true then A else B := by rw [decide_eq_false hp]; exact h
theorem w_iteNT {p : Prop} [Decidable p] {A B : Prop} (hp : ¬ p) (h : A) : if (!decide p) = true then A else B := by rw [decide_eq_false hp]; exact h
theorem w_iteNF {p : Prop} [Decidable p] {A B : Prop} (hp : p) (h : B) : if (!decide p) = true then A else B := by rw [decide_eq_true hp]; exact h
theorem w_true {A B : Prop} (h : A) : if true = true then A else B := h
theorem w_false {A B : Prop} (h : B) : if false = true then A else B := h
theorem w_ntrue {A B : Prop} (h : B) : if (!true) = true then A else B := h
theorem w_nfalse {A B : Prop} (h : A) : if (!false) = true then A else B := h
end
theorem w_cut {u1 u2 : TS} {D : Ends} {σ : L2.St} {H : Hp} (Mid : L2.St → Hp → Prop) (h1 : u1 { D with nx := Mid } σ H) (h2 : ∀ σ' H', Mid σ' H' → u2 D σ' H') : C8.tCut u1 u2 D σ H := ⟨Mid, h1, h2⟩
theorem log2_lt {m : Int} (h0 : 0 < m) (h1 : m ≤ 4611686018427387904) : CDivW 0 m := ⟨h0, by
  have h : m.natAbs < 2 ^ 63 := by omega
  have := Nat.log2_lt (n := m.natAbs) (k := 63) (by omega)
  omega⟩
theorem item_int {ns : List Int} {i : Nat} {y : V} (h : (ns.map V.int)[i]? = some y) : ∃ n, y = V.int n := by
  rw [List.getElem?_map] at h
  cases e : ns[i]? with
  | none => rw [e] at h; cases h
  | some n => rw [e] at h; exact ⟨n, (Option.some.inj h).symm⟩
theorem atI_ints {ns : List Int} {i : Int} (h0 : 0 ≤ i) (h1 : i < ns.length) : ∃ n, n ∈ ns ∧ atI (ns.map V.int) i = some (V.int n) := by
  obtain ⟨j, rfl⟩ := Int.eq_ofNat_of_zero_le h0
  have hj : j < ns.length := by omega
  exact ⟨ns[j], List.getElem_mem hj, atI_nat (by rw [List.getElem?_map, List.getElem?_eq_getElem hj]; rfl)⟩
/-! ### what kind a value is of -/
section
variable {K : PySem.W.Frag} {H : Hp} {Q : VK} {x : V}
theorem w_isN (q : Q (.bl (decide (x = .non))) H) : rIsN x .non H Q := ⟨rfl, q⟩
theorem w_notN (q : Q (.bl (!decide (x = .non))) H) : rNotN x .non H Q := ⟨rfl, q⟩
theorem c_isi {t T : String} {b : Bool} (ty : TyX K H x (.type t)) (h : kitB t T = some b) (q : Q (.bl b) H) : CB (rIsi K) [x, .ty T] H Q := ⟨x, .ty T, .type t, .type T, b, rfl, .ty T, ty, kit_ty h, q⟩
theorem ty_non : TyX K H .non (.type "NoneType") := .base .non
theorem ty_bl {b : Bool} : TyX K H (.bl b) (.type "bool") := .base (.bl b)
theorem ty_int {i : Int} : TyX K H (.int i) (.type "int") := .base (.int i)
theorem ty_str {z : Str} : TyX K H (.str z) (.type "str") := .base (.str z)
theorem ty_L {a : Addr} {xs : List V} (h : SqL K H a xs) : TyX K H (.ref a) (.type "list") := by
  rcases h with (h | ⟨o, h⟩) | ⟨o, its, n, h1, h2, _⟩
  · exact .base (.lst h)
  · exact .base (.frz h)
  · exact .kList h1 h2
theorem ty_T {a : Addr} {xs : List V} (h : SqT K H a xs) : TyX K H (.ref a) (.type "tuple") := by
  rcases h with (h | ⟨o, h⟩) | ⟨o, its, n, h1, h2, _⟩
  · exact .base (.tup h)
  · exact .fTuple h
  · exact .kTuple h1 h2
theorem k_nn : kitB "NoneType" "bool" = some false := by decide +kernel
theorem k_bb : kitB "bool" "bool" = some true := by decide +kernel
theorem k_bi : kitB "bool" "int" = some true := by decide +kernel
theorem k_ib : kitB "int" "bool" = some false := by decide +kernel
theorem k_ii : kitB "int" "int" = some true := by decide +kernel
theorem k_is : kitB "int" "str" = some false := by decide +kernel
theorem k_il : kitB "int" "list" = some false := by decide +kernel
theorem k_it : kitB "int" "tuple" = some false := by decide +kernel
theorem k_bs : kitB "bool" "str" = some false := by decide +kernel
theorem k_bl : kitB "bool" "list" = some false := by decide +kernel
theorem k_bt : kitB "bool" "tuple" = some false := by decide +kernel
theorem k_sb : kitB "str" "bool" = some false := by decide +kernel
theorem k_si : kitB "str" "int" = some false := by decide +kernel
theorem k_ss : kitB "str" "str" = some true := by decide +kernel
theorem k_sl : kitB "str" "list" = some false := by decide +kernel
theorem k_st : kitB "str" "tuple" = some false := by decide +kernel
theorem k_lb : kitB "list" "bool" = some false := by decide +kernel
theorem k_li : kitB "list" "int" = some false := by decide +kernel
theorem k_ls : kitB "list" "str" = some false := by decide +kernel
theorem k_ll : kitB "list" "list" = some true := by decide +kernel
theorem k_lt : kitB "list" "tuple" = some false := by decide +kernel
theorem k_tb : kitB "tuple" "bool" = some false := by decide +kernel
theorem k_ti : kitB "tuple" "int" = some false := by decide +kernel
theorem k_ts : kitB "tuple" "str" = some false := by decide +kernel
theorem k_tl : kitB "tuple" "list" = some false := by decide +kernel
theorem k_tt : kitB "tuple" "tuple" = some true := by decide +kernel
theorem k_ni : kitB "NoneType" "int" = some false := by decide +kernel
theorem k_ns : kitB "NoneType" "str" = some false := by decide +kernel
theorem k_nl : kitB "NoneType" "list" = some false := by decide +kernel
theorem k_nt : kitB "NoneType" "tuple" = some false := by decide +kernel
end
/-! ### data -/
/-- what is no list and no tuple -/
inductive Sc : V → PyData → Prop where
  | non : Sc .non .none
  | bl (b : Bool) : Sc (.bl b) (.bool b)
  | int (i : Int) : Sc (.int i) (.int i)
  | str (x : Str) : Sc (.str x) (.str x)
/-- v is the datum d, lists and tuples nested at most n deep, none of them in S -/
def Dn (K : PySem.W.Frag) (S : List Addr) (H : Hp) : Nat → V → PyData → Prop
  | 0, v, d => Sc v d
  | n + 1, v, d => Sc v d ∨ (∃ a xs ds, v = .ref a ∧ d = .list ds ∧ a ∉ S ∧ SqL K H a xs ∧ xs.length ≤ 100000 ∧ Paired (Dn K S H n) xs ds) ∨
      (∃ a xs ds, v = .ref a ∧ d = .tuple ds ∧ a ∉ S ∧ SqT K H a xs ∧ xs.length ≤ 100000 ∧ Paired (Dn K S H n) xs ds)
section
variable {K : PySem.W.Frag} {S S' : List Addr} {H H' : Hp}
theorem Dn.sc {v : V} {d : PyData} (h : Sc v d) : ∀ {n : Nat}, Dn K S H n v d
  | 0 => h
  | _ + 1 => .inl h
theorem Dn.upt (u : Upt S' H H') (hs : ∀ a ∈ S', a ∈ S) : ∀ {n : Nat} {v : V} {d : PyData}, Dn K S H n v d → Dn K S H' n v d
  | 0, _, _, h => h
  | n + 1, v, d, h => by
    rcases h with h | ⟨a, xs, ds, e1, e2, ha, hq, hl, p⟩ | ⟨a, xs, ds, e1, e2, ha, hq, hl, p⟩
    · exact .inl h
    · exact .inr (.inl ⟨a, xs, ds, e1, e2, ha, u.seqL (fun z => ha (hs a z)) hq, hl, Paired.mapP p fun x y q => Dn.upt u hs q⟩)
    · exact .inr (.inr ⟨a, xs, ds, e1, e2, ha, u.seqT (fun z => ha (hs a z)) hq, hl, Paired.mapP p fun x y q => Dn.upt u hs q⟩)
theorem Dn.weak (hs : ∀ a ∈ S', a ∈ S) : ∀ {n : Nat} {v : V} {d : PyData}, Dn K S H n v d → Dn K S' H n v d
  | 0, _, _, h => h
  | n + 1, v, d, h => by
    rcases h with h | ⟨a, xs, ds, e1, e2, ha, hq, hl, p⟩ | ⟨a, xs, ds, e1, e2, ha, hq, hl, p⟩
    · exact .inl h
    · exact .inr (.inl ⟨a, xs, ds, e1, e2, fun z => ha (hs a z), hq, hl, Paired.mapP p fun x y q => Dn.weak hs q⟩)
    · exact .inr (.inr ⟨a, xs, ds, e1, e2, fun z => ha (hs a z), hq, hl, Paired.mapP p fun x y q => Dn.weak hs q⟩)
theorem Dn.up : ∀ {n m : Nat} {v : V} {d : PyData}, n ≤ m → Dn K S H n v d → Dn K S H m v d
  | 0, 0, _, _, _, h => h
  | 0, _ + 1, _, _, _, h => .inl h
  | n + 1, 0, _, _, l, _ => absurd l (by omega)
  | n + 1, m + 1, v, d, l, h => by
    rcases h with h | ⟨a, xs, ds, e1, e2, ha, hq, hl, p⟩ | ⟨a, xs, ds, e1, e2, ha, hq, hl, p⟩
    · exact .inl h
    · exact .inr (.inl ⟨a, xs, ds, e1, e2, ha, hq, hl, Paired.mapP p fun x y q => Dn.up (by omega) q⟩)
    · exact .inr (.inr ⟨a, xs, ds, e1, e2, ha, hq, hl, Paired.mapP p fun x y q => Dn.up (by omega) q⟩)
theorem Dn.tup {n : Nat} {a : Addr} {xs : List V} {ds : List PyData} (h : SqT K H a xs) (ha : a ∉ S) (hl : xs.length ≤ 100000) (p : Paired (Dn K S H n) xs ds) : Dn K S H (n + 1) (.ref a) (.tuple ds) := .inr (.inr ⟨a, xs, ds, rfl, rfl, ha, h, hl, p⟩)
theorem Dn.lst {n : Nat} {a : Addr} {xs : List V} {ds : List PyData} (h : SqL K H a xs) (ha : a ∉ S) (hl : xs.length ≤ 100000) (p : Paired (Dn K S H n) xs ds) : Dn K S H (n + 1) (.ref a) (.list ds) := .inr (.inl ⟨a, xs, ds, rfl, rfl, ha, h, hl, p⟩)
theorem Dn.int {n : Nat} {i : Int} : Dn K S H n (.int i) (.int i) := .sc (.int i)
theorem Dn.str {n : Nat} {z : Str} : Dn K S H n (.str z) (.str z) := .sc (.str z)
theorem Dn.non {n : Nat} : Dn K S H n .non .none := .sc .non
theorem Dn.bl {n : Nat} {b : Bool} : Dn K S H n (.bl b) (.bool b) := .sc (.bl b)
theorem Dn.ints {n : Nat} : ∀ {ns : List Int}, Paired (Dn K S H n) (ns.map V.int) (ns.map PyData.int)
  | [] => .nil
  | _ :: _ => .cons Dn.int Dn.ints
end
theorem paired_at {α β : Type} {F : α → β → Prop} : ∀ {xs : List α} {ys : List β} {i : Nat} {x : α}, Paired F xs ys → xs[i]? = some x → ∃ y, ys[i]? = some y ∧ F x y
  | _, _, _, _, .nil, e => by simp at e
  | _, _, 0, _, .cons r _, e => by simp at e; subst e; exact ⟨_, rfl, r⟩
  | _, _, i + 1, x, .cons _ t, e => by
    obtain ⟨u, h1, h2⟩ := paired_at (i := i) (x := x) t (by simpa using e)
    exact ⟨u, by simpa using h1, h2⟩
/-! ### loops -/
section
variable {K : PySem.W.Frag} {σ : L2.St} {H : Hp} {Q : VK} {tl : TE} {ta : TA} {tb : TS} {D : Ends} {g : TG}
/-- the loop's own part of a for over J -/
def KFor (J : It) (g : TG) (tb : TS) (D : Ends) (σ : L2.St) (H : Hp) : Prop := ∃ W : Nat → Nat → L2.St → Hp → Prop, (∃ m, W 0 m σ H) ∧ ∀ i m σ H, W i m σ H →
  (J.stop i H ∧ D.nx σ H) ∨ (J.go i H ∧ ∃ N : L2.St → Hp → Prop, (∀ σ' H', N σ' H' → ∃ m', m' < m ∧ W (i + 1) m' σ' H') ∧ ∀ x H', J.yld i H x H' → g x σ H' fun σ2 H2 => tb { D with nx := N, ct := N, bk := D.nx } σ2 H2)
def KForL (K : PySem.W.Frag) (g : TG) (tb : TS) (D : Ends) (σ : L2.St) (x : V) (H : Hp) : Prop := ∃ a, x = .ref a ∧ (∃ xs, SqL K H a xs) ∧ KFor (Itl K a) g tb D σ H
def KForT (K : PySem.W.Frag) (g : TG) (tb : TS) (D : Ends) (σ : L2.St) (x : V) (H : Hp) : Prop := ∃ a, x = .ref a ∧ (∃ xs, SqT K H a xs) ∧ KFor (Itt K a) g tb D σ H
def KForS (g : TG) (tb : TS) (D : Ends) (σ : L2.St) (v : V) (H : Hp) : Prop := ∃ x, v = .str x ∧ KFor (Its x) g tb D σ H
def KForR (g : TG) (tb : TS) (D : Ends) (σ : L2.St) (vs : List V) (H : Hp) : Prop := ∃ j : Int, vs = [.int j] ∧ -(2 ^ 62) ≤ j ∧ j < 2 ^ 62 ∧ KFor (Itr 0 j.toNat) g tb D σ H
theorem w_forL (h : tl σ H fun x H1 => KForL K g tb D σ x H1) : tFor (iList K tl) g tb D σ H := h
theorem w_forT (h : tl σ H fun x H1 => KForT K g tb D σ x H1) : tFor (iTup K tl) g tb D σ H := h
theorem w_forS (h : tl σ H fun x H1 => KForS g tb D σ x H1) : tFor (iStr tl) g tb D σ H := h
theorem w_forR (h : ta σ H fun vs H1 => KForR g tb D σ vs H1) : tFor (iRng1 ta) g tb D σ H := h
theorem l_list {a : Addr} {xs : List V} {n : Nat} (h : SqL K H a xs) (Pv : Nat → L2.St → Hp → Prop) (h0 : Pv 0 σ H) (hl : ∀ i σ H, i ≤ xs.length → Pv i σ H → SqL K H a xs)
    (hs : ∀ i y σ H, xs[i]? = some y → Pv i σ H → tb { D with nx := Pv (i + 1), ct := Pv (i + 1), bk := D.nx } (σ.set n (some y)) H) (hd : ∀ σ H, Pv xs.length σ H → D.nx σ H) : KForL K (gName n) tb D σ (.ref a) H :=
  ⟨a, rfl, ⟨xs, h⟩, for_list (K := K) (a := a) (xs := xs) Pv h0 hl hs hd⟩
theorem l_tup {a : Addr} {xs : List V} {n : Nat} (h : SqT K H a xs) (Pv : Nat → L2.St → Hp → Prop) (h0 : Pv 0 σ H) (hl : ∀ i σ H, i ≤ xs.length → Pv i σ H → SqT K H a xs)
    (hs : ∀ i y σ H, xs[i]? = some y → Pv i σ H → tb { D with nx := Pv (i + 1), ct := Pv (i + 1), bk := D.nx } (σ.set n (some y)) H) (hd : ∀ σ H, Pv xs.length σ H → D.nx σ H) : KForT K (gName n) tb D σ (.ref a) H :=
  ⟨a, rfl, ⟨xs, h⟩, for_tup (K := K) (a := a) (xs := xs) Pv h0 hl hs hd⟩
theorem l_range {j : Int} {n m : Nat} (hj : j = (m : Int)) (hb : m ≤ 1000000) (Pv : Nat → L2.St → Hp → Prop) (h0 : Pv 0 σ H)
    (hs : ∀ (i : Nat) σ H, i < m → Pv i σ H → tb { D with nx := Pv (i + 1), ct := Pv (i + 1), bk := D.nx } (σ.set n (some (.int (i : Int)))) H) (hd : ∀ σ H, Pv m σ H → D.nx σ H) : KForR (gName n) tb D σ [.int j] H := by
  subst hj
  refine ⟨(m : Int), rfl, by omega, by omega, ?_⟩
  have e : ((m : Int)).toNat = m := by simp
  rw [e]
  refine for_range (lo := 0) (n := m) Pv h0 (fun i σ H hi p => ?_) hd
  have z : (0 : Int) + (i : Int) = (i : Int) := Int.zero_add _
  show tb _ (σ.set n (some (.int ((0 : Int) + (i : Int))))) H
  rw [z]
  exact hs i σ H hi p
theorem l_str {z : Str} {n : Nat} (Pv : Nat → L2.St → Hp → Prop) (h0 : Pv 0 σ H)
    (hs : ∀ (i c : Nat) σ H, z.cps.toList[i]? = some c → Pv i σ H → tb { D with nx := Pv (i + 1), ct := Pv (i + 1), bk := D.nx } (σ.set n (some (.str ⟨#[c]⟩))) H) (hd : ∀ σ H, Pv z.cps.toList.length σ H → D.nx σ H) : KForS (gName n) tb D σ (.str z) H := by
  have el : z.cps.toList.length = z.cps.size := by simp
  refine ⟨z, rfl, fun i m σ H => m = z.cps.size - i ∧ i ≤ z.cps.size ∧ Pv i σ H, ⟨z.cps.size, by simp, Nat.zero_le _, h0⟩, ?_⟩
  rintro i m σ H ⟨rfl, hi, p⟩
  by_cases hlt : i < z.cps.size
  · refine .inr ⟨hlt, Pv (i + 1), fun σ' H' p' => ⟨z.cps.size - (i + 1), by omega, rfl, hlt, p'⟩, fun x H' y => ?_⟩
    obtain ⟨e, c, hc, ev⟩ := y
    subst e
    subst ev
    exact hs i c σ H' (by rw [Array.getElem?_toList]; exact hc) p
  · have e2 : i = z.cps.size := by omega
    subst e2
    exact .inl ⟨Nat.le_refl _, hd _ _ (by rw [el]; exact p)⟩
/-! comprehensions -/
def KLc (J : It) (g : TG) (tt : TT) (te : TE) (vs : List Nat) (σ : L2.St) (H1 : Hp) (Q : VK) : Prop := ∀ D, H1 D = none → ∃ W : Nat → Nat → Hp → Prop, (∃ m, W 0 m (upd H1 D (.lst []))) ∧ ∀ i m H, W i m H →
  (J.stop i H ∧ Q (.ref D) H) ∨ (J.go i H ∧ ∃ Nx : Hp → Prop, (∀ H', Nx H' → ∃ m', m' < m ∧ W (i + 1) m' H') ∧ ∀ x H', J.yld i H x H' → g x (wipe σ vs) H' fun σ2 H2 => wipe σ2 vs = wipe σ vs ∧ tt σ2 H2 fun b H3 =>
    if b = true then te σ2 H3 fun y H4 => ∃ acc, H4 D = some (.lst acc) ∧ acc.length < sizeLine ∧ Nx (upd H4 D (.lst (acc ++ [y]))) else Nx H3)
def KLcR (g : TG) (tt : TT) (te : TE) (us : List Nat) (σ : L2.St) (Q : VK) (vs : List V) (H : Hp) : Prop := ∃ j : Int, vs = [.int j] ∧ -(2 ^ 62) ≤ j ∧ j < 2 ^ 62 ∧ KLc (Itr 0 j.toNat) g tt te us σ H Q
def KLcL (K : PySem.W.Frag) (g : TG) (tt : TT) (te : TE) (us : List Nat) (σ : L2.St) (Q : VK) (x : V) (H : Hp) : Prop := ∃ a, x = .ref a ∧ (∃ xs, SqL K H a xs) ∧ KLc (Itl K a) g tt te us σ H Q
def KLcT (K : PySem.W.Frag) (g : TG) (tt : TT) (te : TE) (us : List Nat) (σ : L2.St) (Q : VK) (x : V) (H : Hp) : Prop := ∃ a, x = .ref a ∧ (∃ xs, SqT K H a xs) ∧ KLc (Itt K a) g tt te us σ H Q
variable {tt : TT} {te : TE} {us : List Nat}
theorem w_lcR (h : ta σ H fun vs H1 => KLcR g tt te us σ Q vs H1) : tLc (iRng1 ta) g tt te us σ H Q := h
theorem w_lcL (h : tl σ H fun x H1 => KLcL K g tt te us σ Q x H1) : tLc (iList K tl) g tt te us σ H Q := h
theorem w_lcT (h : tl σ H fun x H1 => KLcT K g tt te us σ Q x H1) : tLc (iTup K tl) g tt te us σ H Q := h
/-- what is made stands behind the list at D -/
def KApp (D : Addr) (P : Hp → Prop) (y : V) (H : Hp) : Prop := ∃ acc, H D = some (.lst acc) ∧ acc.length < sizeLine ∧ P (upd H D (.lst (acc ++ [y])))
theorem w_kapp {D : Addr} {P : Hp → Prop} {y : V} {acc : List V} (h : H D = some (.lst acc)) (hz : acc.length < sizeLine) (q : ∀ H5, Chg H H5 D (.lst (acc ++ [y])) → P H5) : KApp D P y H := ⟨acc, h, hz, q _ Chg.of⟩
/-- [e for k in range(m)] -/
theorem lc_R {j : Int} {n m : Nat} (hj : j = (m : Int)) (hb : m ≤ 1000000) (Pv : Nat → Addr → Hp → Prop) (h0 : ∀ D H1, New H H1 D (.lst []) → Pv 0 D H1)
    (hs : ∀ (i : Nat) D H, i < m → Pv i D H → te ((σ.set n none).set n (some (.int (i : Int)))) H (KApp D (Pv (i + 1) D)))
    (hd : ∀ D H, Pv m D H → Q (.ref D) H) : KLcR (gName n) tYes te [n] σ Q [.int j] H := by
  subst hj
  refine ⟨(m : Int), rfl, by omega, by omega, fun D hD => ?_⟩
  have e : ((m : Int)).toNat = m := by simp
  rw [e]
  refine lc_range (lo := 0) (n := m) (fun i H => Pv i D H) (h0 D _ (New.of hD)) (fun i H hi p => ?_) fun H p => hd D H p
  have z : (0 : Int) + (i : Int) = (i : Int) := Int.zero_add _
  refine ⟨?_, ?_⟩
  · show List.set (List.set (List.set σ n none) n (some (V.int ((0 : Int) + (i : Int))))) n none = List.set σ n none
    simp
  · show te (List.set (List.set σ n none) n (some (V.int ((0 : Int) + (i : Int))))) H (KApp D (Pv (i + 1) D))
    rw [z]
    exact hs i D H hi p
/-- [e for x in xs] -/
theorem lc_L {a : Addr} {xs : List V} {n : Nat} (h : SqL K H a xs) (Pv : Nat → Addr → Hp → Prop) (h0 : ∀ D H1, New H H1 D (.lst []) → Pv 0 D H1) (hl : ∀ i D H, i ≤ xs.length → Pv i D H → SqL K H a xs)
    (hs : ∀ (i : Nat) x D H, xs[i]? = some x → Pv i D H → te ((σ.set n none).set n (some x)) H (KApp D (Pv (i + 1) D)))
    (hd : ∀ D H, Pv xs.length D H → Q (.ref D) H) : KLcL K (gName n) tYes te [n] σ Q (.ref a) H := by
  refine ⟨a, rfl, ⟨xs, h⟩, fun D hD => ?_⟩
  refine lc_list (K := K) (a := a) (xs := xs) (fun i H => Pv i D H) (h0 D _ (New.of hD)) (fun i H hi p => hl i D H hi p) (fun i x H hi p => ?_) fun H p => hd D H p
  refine ⟨?_, ?_⟩
  · show List.set (List.set (List.set σ n none) n (some x)) n none = List.set σ n none
    simp
  · show te (List.set (List.set σ n none) n (some x)) H (KApp D (Pv (i + 1) D))
    exact hs i x D H hi p
theorem lc_T {a : Addr} {xs : List V} {n : Nat} (h : SqT K H a xs) (Pv : Nat → Addr → Hp → Prop) (h0 : ∀ D H1, New H H1 D (.lst []) → Pv 0 D H1) (hl : ∀ i D H, i ≤ xs.length → Pv i D H → SqT K H a xs)
    (hs : ∀ (i : Nat) x D H, xs[i]? = some x → Pv i D H → te ((σ.set n none).set n (some x)) H (KApp D (Pv (i + 1) D)))
    (hd : ∀ D H, Pv xs.length D H → Q (.ref D) H) : KLcT K (gName n) tYes te [n] σ Q (.ref a) H := by
  refine ⟨a, rfl, ⟨xs, h⟩, fun D hD => ?_⟩
  refine lc_tup (K := K) (a := a) (xs := xs) (fun i H => Pv i D H) (h0 D _ (New.of hD)) (fun i H hi p => hl i D H hi p) (fun i x H hi p => ?_) fun H p => hd D H p
  refine ⟨?_, ?_⟩
  · show List.set (List.set (List.set σ n none) n (some x)) n none = List.set σ n none
    simp
  · show te (List.set (List.set σ n none) n (some x)) H (KApp D (Pv (i + 1) D))
    exact hs i x D H hi p
end
/-! ### built-ins, by names -/
section
variable {K : PySem.W.Frag} {H : Hp} {Q : VK} {i j : Int} {v : V}
def rInt1 : List V → Hp → VK → Prop := fun xs H Q => (∃ i, xs = [.int i] ∧ Q (.int i) H) ∨ ∃ k, xs = [.bl k] ∧ Q (.int (if k then 1 else 0)) H
def rAbs : List V → Hp → VK → Prop := fun xs H Q => ∃ i, xs = [.int i] ∧ Q (.int (if i < 0 then -i else i)) H
def rMax2 : List V → Hp → VK → Prop := fun xs H Q => ∃ i j, xs = [.int i, .int j] ∧ Q (.int (if j > i then j else i)) H
def rMin2 : List V → Hp → VK → Prop := fun xs H Q => ∃ i j, xs = [.int i, .int j] ∧ Q (.int (if j < i then j else i)) H
def rListOf (K : PySem.W.Frag) : List V → Hp → VK → Prop := fun xs H Q => ∃ p ys, xs = [.ref p] ∧ (SqL K H p ys ∨ SqT K H p ys) ∧ ∀ l, H l = none → Q (.ref l) (upd H l (.lst ys))
def rTupOf (K : PySem.W.Frag) : List V → Hp → VK → Prop := fun xs H Q => ∃ p ys, xs = [.ref p] ∧ ((SqL K H p ys ∧ ∀ l, H l = none → Q (.ref l) (upd H l (.tup ys))) ∨ (SqT K H p ys ∧ Q (.ref p) H))
def rLenS (K : PySem.W.Frag) : List V → Hp → VK → Prop := fun xs H Q => ∃ p ys, xs = [.ref p] ∧ (SqL K H p ys ∨ SqT K H p ys) ∧ Q (.int ys.length) H
def rLenT : List V → Hp → VK → Prop := fun xs H Q => ∃ z, xs = [.str z] ∧ z.length ≤ sizeLine ∧ Q (.int z.length) H
variable {X : Cx}
theorem b_int : CallR X (.type "int") rInt1 := call_int1
theorem b_abs : CallR X (.builtin "abs") rAbs := call_abs
theorem b_max (hc : X.calm = true) : CallR X (.builtin "max") rMax2 := call_max2 hc
theorem b_min (hc : X.calm = true) : CallR X (.builtin "min") rMin2 := call_min2 hc
theorem b_list : CallR X (.type "list") (rListOf X.K) := call_list_of
theorem b_tuple : CallR X (.type "tuple") (rTupOf X.K) := call_tuple_of
theorem b_len : CallR X (.builtin "len") (rLenS X.K) := call_len_seq
theorem b_lenT : CallR X (.builtin "len") rLenT := call_len_str
theorem c_int (q : Q (.int i) H) : CB rInt1 [.int i] H Q := Or.inl ⟨i, rfl, q⟩
theorem c_intB {b : Bool} (q : Q (.int (if b then 1 else 0)) H) : CB rInt1 [.bl b] H Q := Or.inr ⟨b, rfl, q⟩
theorem c_abs (q : Q (.int (if i < 0 then -i else i)) H) : CB rAbs [.int i] H Q := ⟨i, rfl, q⟩
theorem c_max (q : Q (.int (if j > i then j else i)) H) : CB rMax2 [.int i, .int j] H Q := ⟨i, j, rfl, q⟩
theorem c_min (q : Q (.int (if j < i then j else i)) H) : CB rMin2 [.int i, .int j] H Q := ⟨i, j, rfl, q⟩
theorem c_listL {p : Addr} {ys : List V} (h : SqL K H p ys) (q : ∀ l H2, New H H2 l (.lst ys) → Q (.ref l) H2) : CB (rListOf K) [.ref p] H Q := ⟨p, ys, rfl, .inl h, fun l hl => q l _ (New.of hl)⟩
theorem c_listT {p : Addr} {ys : List V} (h : SqT K H p ys) (q : ∀ l H2, New H H2 l (.lst ys) → Q (.ref l) H2) : CB (rListOf K) [.ref p] H Q := ⟨p, ys, rfl, .inr h, fun l hl => q l _ (New.of hl)⟩
theorem c_tupL {p : Addr} {ys : List V} (h : SqL K H p ys) (q : ∀ l H2, New H H2 l (.tup ys) → Q (.ref l) H2) : CB (rTupOf K) [.ref p] H Q := ⟨p, ys, rfl, .inl ⟨h, fun l hl => q l _ (New.of hl)⟩⟩
theorem c_lenL {p : Addr} {ys : List V} (h : SqL K H p ys) (q : Q (.int (ys.length : Int)) H) : CB (rLenS K) [.ref p] H Q := ⟨p, ys, rfl, .inl h, q⟩
theorem c_lenT {p : Addr} {ys : List V} (h : SqT K H p ys) (q : Q (.int (ys.length : Int)) H) : CB (rLenS K) [.ref p] H Q := ⟨p, ys, rfl, .inr h, q⟩
theorem c_lenA {p : Addr} {ys : List V} (h : SqL K H p ys ∨ SqT K H p ys) (q : Q (.int (ys.length : Int)) H) : CB (rLenS K) [.ref p] H Q := ⟨p, ys, rfl, h, q⟩
theorem c_lenS {z : Str} (h : z.length ≤ sizeLine) (q : Q (.int (z.length : Int)) H) : CB rLenT [.str z] H Q := ⟨z, rfl, h, q⟩
end
end Wk
set_option Elab.async false
set_option linter.all false
set_option maxRecDepth 100000
set_option maxHeartbeats 4000000
/-! Wk: small defs without effects, walked in any surroundings (for what a generator expression calls). -/
namespace Wk
open PySem PySem.Spec PyProof.Rows L2
abbrev Pins := List (Addr × Obj)
/-- the frame's names hold vals, what the top left stands, and the pinned objects too -/
structure RS (base : Heap) (env : Env) (vals : List (Str × V)) (G : Pins) (m : Str → Option Value) (s : Shared) : Prop where
  hb : ∀ b o, base.get? b = some o → s.heap.get? b = some o
  hn : s.heap.Ns env.locals m
  hm : ∀ p ∈ vals, ∃ u, m p.1 = some u ∧ RelV p.2 u
  hG : ∀ q ∈ G, s.heap.get? q.1 = some q.2
/-- the expression e gives v and keeps all that stands -/
def RE (prog : Program) (w : World) (base : Heap) (D : Nat) (env : Env) (vals : List (Str × V)) (G : Pins) (e : Expr) (v : V) : Prop :=
  ∀ (A : Around) (E : Value → Shared → Prop) (s : Shared) (m : Str → Option Value), A.handled = none → A.depth ≤ D → RS base env vals G m s → wpAny (model prog w) A (eval e env) (fun y s' => RelV v y ∧ Keeps s s') E s
/-- arguments -/
def RA (prog : Program) (w : World) (base : Heap) (D : Nat) (env : Env) (vals : List (Str × V)) (G : Pins) (es : List Expr) (vs : List V) : Prop :=
  ∀ (pos : Pos) (A : Around) (E : Value → Shared → Prop) (s : Shared) (m : Str → Option Value), A.handled = none → A.depth ≤ D → RS base env vals G m s → wpAny (model prog w) A (spliced (backTo pos (starEach es env))) (fun us s' => Vals vs us ∧ Keeps s s') E s
/-- the def at f hands back v for vs -/
def RF (prog : Program) (w : World) (base : Heap) (D : Nat) (f : Addr) (vs : List V) (G : Pins) (v : V) : Prop :=
  ∀ (A : Around) (s : Shared) (us : List Value), A.handled = none → A.depth ≤ D → (∀ b o, base.get? b = some o → s.heap.get? b = some o) → Vals vs us → (∀ q ∈ G, s.heap.get? q.1 = some q.2) →
    codeAny (model prog w) A (.call (.ref f) ⟨us, []⟩) (fun r s' => ∃ u, r = .ok (.ret u) ∧ RelV v u ∧ Keeps s s') s
/-- what is known of a frame -/
structure RC (scope : Scope) (env : Env) : Prop where
  kind : env.scope.kind = .function
  sc : env.scope = scope
  glob : env.globals = mainGlobals
  blt : env.builtins = builtinsNs
theorem keeps_trans {s s1 s2 : Shared} (a : Keeps s s1) (b : Keeps s1 s2) : Keeps s s2 := by
  obtain ⟨h1, k1, rfl, e1⟩ := a
  obtain ⟨h2, k2, rfl, e2⟩ := b
  exact ⟨h2, k2, rfl, fun b o q => e2 b o (e1 b o q)⟩
theorem keeps_tok (s : Shared) (k : Nat) : Keeps s { s with toks := k } := ⟨s.heap, k, rfl, fun _ _ e => e⟩
theorem keeps_self (s : Shared) : Keeps s s := keeps_tok s s.toks
theorem keeps_get {s s' : Shared} (a : Keeps s s') : ∀ b o, s.heap.get? b = some o → s'.heap.get? b = some o := by
  obtain ⟨h1, k1, rfl, e1⟩ := a
  exact e1
/-- the kind of a value, with what is pinned -/
inductive KV (G : Pins) : V → String → Prop
  | non : KV G .non "NoneType"
  | bl {b} : KV G (.bl b) "bool"
  | int {i} : KV G (.int i) "int"
  | str {z} : KV G (.str z) "str"
  | lst {a o} : (a, o) ∈ G → o.cls = .type "list" → KV G (.ref a) "list"
  | tup {a o} : (a, o) ∈ G → o.cls = .type "tuple" → KV G (.ref a) "tuple"
  | dct {a o} : (a, o) ∈ G → o.cls = .type "dict" → KV G (.ref a) "dict"
section
variable {prog : Program} {w : World} {K : PySem.W.Frag} {mg : Str → Option Value} {base : Heap} {D : Nat} {env : Env} {scope : Scope} {vals : List (Str × V)} {G : Pins} {e e1 e2 e3 : Expr} {es : List Expr} {v : V} {vs : List V} {p p1 p2 pos : Pos}
theorem RS.on {m : Str → Option Value} {s s' : Shared} (r : RS base env vals G m s) (k : Keeps s s') : RS base env vals G m s' :=
  ⟨fun b o q => keeps_get k b o (r.hb b o q), r.hn.keeps (keeps_get k), r.hm, fun q hq => keeps_get k _ _ (r.hG q hq)⟩
theorem re_name {x : Str} (c : RC scope env) (hl : scope.names.lookup x = some .local) (hv : (x, v) ∈ vals) (hd : (x == ("__debug__" : Str)) = false := by decide) : RE prog w base D env vals G (.Name x p) v := by
  intro A E s m hA hD r
  obtain ⟨u, hu, q⟩ := r.hm _ hv
  exact wpAny_Name (wpAny_loadName_local c.kind (show env.scope.names.lookup x = some .local by rw [c.sc]; exact hl) r.hn hu ⟨q, keeps_self _⟩) hd
theorem re_int {i : Int} {j : Nat} : RE prog w base D env vals G (.Constant (.int i) j p) (.int i) := fun A E s m hA hD r => wpAny_Constant_int ⟨⟨_, rfl⟩, keeps_tok _ _⟩
theorem re_str {z : Str} {j : Nat} : RE prog w base D env vals G (.Constant (.str z) j p) (.str z) := fun A E s m hA hD r => Calls.Constant_str ⟨⟨_, rfl⟩, keeps_tok _ _⟩
theorem ld_g {x : Str} {u : Value} {A : Around} {E : Value → Shared → Prop} {s : Shared} {m : Str → Option Value} {Q : Value → Shared → Prop} (M : Mod K mg base) (c : RC scope env) (r : RS base env vals G m s) (hg : scope.names.lookup x = some .globalImplicit) (hm : mg x = some u) (q : Q u s) (hd : (x == ("__debug__" : Str)) = false := by decide) :
    wpAny (model prog w) A (eval (.Name x p) env) Q E s :=
  Calls.Name_function_global c.kind (show env.scope.names.lookup x = some .globalImplicit by rw [c.sc]; exact hg) (Calls.loadGlobal_global (by rw [c.glob]; exact M.glob.keeps r.hb) hm q) hd
theorem ld_b {x : Str} {u : Value} {A : Around} {E : Value → Shared → Prop} {s : Shared} {m : Str → Option Value} {Q : Value → Shared → Prop} (M : Mod K mg base) (c : RC scope env) (r : RS base env vals G m s) (hg : scope.names.lookup x = some .globalImplicit) (hm : mg x = none) (hv : bootBuiltins x = some u) (q : Q u s)
    (hn0 : x ≠ "__name__" := by decide) (hd : (x == ("__debug__" : Str)) = false := by decide) : wpAny (model prog w) A (eval (.Name x p) env) Q E s := by
  obtain ⟨mb, h1, h2⟩ := M.blt
  exact Calls.Name_function_global c.kind (show env.scope.names.lookup x = some .globalImplicit by rw [c.sc]; exact hg) (Calls.loadGlobal_builtin (by rw [c.glob]; exact M.glob.keeps r.hb) hm (by rw [c.blt]; exact h1.keeps r.hb) ((h2 x hn0).trans hv) q) hd
theorem re_glob {x : Str} {u : Value} (M : Mod K mg base) (c : RC scope env) (hg : scope.names.lookup x = some .globalImplicit) (hm : mg x = some u) (q : RelV v u) (hd : (x == ("__debug__" : Str)) = false := by decide) : RE prog w base D env vals G (.Name x p) v :=
  fun A E s m hA hD r => ld_g M c r hg hm ⟨q, keeps_self _⟩ hd
theorem re_blt {x : Str} {u : Value} (M : Mod K mg base) (c : RC scope env) (hg : scope.names.lookup x = some .globalImplicit) (hm : mg x = none) (hv : bootBuiltins x = some u) (q : RelV v u) (hn0 : x ≠ "__name__" := by decide) (hd : (x == ("__debug__" : Str)) = false := by decide) : RE prog w base D env vals G (.Name x p) v :=
  fun A E s m hA hD r => ld_b M c r hg hm hv ⟨q, keeps_self _⟩ hn0 hd
/-- a - b of whole numbers -/
theorem re_sub {i j : Int} (h1 : RE prog w base D env vals G e1 (.int i)) (h2 : RE prog w base D env vals G e2 (.int j)) : RE prog w base D env vals G (.BinOp e1 .Sub e2 p) (.int (i - j)) := by
  intro A E s m hA hD r
  refine wpAny_BinOp (thn (h1 A E s m hA hD r) fun y s1 ⟨r1, k1⟩ => ?_)
  refine thn (h2 A E s1 m hA hD (r.on k1)) fun z s2 ⟨r2, k2⟩ => ?_
  obtain ⟨t, rfl⟩ := r1
  obtain ⟨t', rfl⟩ := r2
  exact sub_int ⟨⟨_, rfl⟩, keeps_trans (keeps_trans k1 k2) (keeps_tok _ _)⟩
/-- a and b, of truth values; a false one ends it -/
theorem re_andF {rest : List Expr} (h1 : RE prog w base D env vals G e1 (.bl false)) : RE prog w base D env vals G (.BoolOp .And (e1 :: e2 :: rest) p) (.bl false) := by
  intro A E s m hA hD r
  refine BoolOp_and (thn (h1 A E s m hA hD r) fun y s1 ⟨r1, k1⟩ => ?_)
  cases r1
  exact wpAny_truthy_bool ⟨rfl, k1⟩
theorem re_andT {b : Bool} (h1 : RE prog w base D env vals G e1 (.bl true)) (h2 : RE prog w base D env vals G e2 (.bl b)) : RE prog w base D env vals G (.BoolOp .And [e1, e2] p) (.bl b) := by
  intro A E s m hA hD r
  refine BoolOp_and (thn (h1 A E s m hA hD r) fun y s1 ⟨r1, k1⟩ => ?_)
  cases r1
  refine wpAny_truthy_bool ?_
  refine BoolOp_one (thn (h2 A E s1 m hA hD (r.on k1)) fun z s2 ⟨r2, k2⟩ => ⟨r2, keeps_trans k1 k2⟩)
theorem re_not {b : Bool} (h1 : RE prog w base D env vals G e1 (.bl b)) : RE prog w base D env vals G (.UnaryOp .Not e1 p) (.bl (!b)) := by
  intro A E s m hA hD r
  refine UnaryOp_ (thn (h1 A E s m hA hD r) fun y s1 ⟨r1, k1⟩ => ?_)
  cases r1
  exact not_of (wpAny_truthy_bool ⟨rfl, k1⟩)
/-- i <= x <= j -/
theorem re_chain {i x j : Int} (h1 : RE prog w base D env vals G e1 (.int i)) (h2 : RE prog w base D env vals G e2 (.int x)) (h3 : RE prog w base D env vals G e3 (.int j)) (hm : lastMarks [.LtE, .LtE] [e2, e3] = false := by with_unfolding_all rfl) :
    RE prog w base D env vals G (.Compare e1 [.LtE, .LtE] [e2, e3] p) (.bl (decide (i ≤ x ∧ x ≤ j))) := by
  intro A E s m hA hD r
  refine Compare_chain (thn (h1 A E s m hA hD r) fun y s1 ⟨r1, k1⟩ => chain_link (thn (h2 A E s1 m hA hD (r.on k1)) fun z s2 ⟨r2, k2⟩ => ?_)) hm
  obtain ⟨t, rfl⟩ := r1
  obtain ⟨t', rfl⟩ := r2
  refine PyProof.Rows.le_int (wpAny_truthy_bool ?_)
  by_cases hi : i ≤ x
  · rw [decide_eq_true hi]
    refine ite_tt (chain_last (thn (h3 A E s2 m hA hD ((r.on k1).on k2)) fun z3 s3 ⟨r3, k3⟩ => ?_))
    obtain ⟨t3, rfl⟩ := r3
    refine PyProof.Rows.le_int ⟨?_, keeps_trans (keeps_trans k1 k2) k3⟩
    show Value.bool _ = Value.bool _
    simp [hi]
  · rw [decide_eq_false hi]
    refine ite_ff ⟨?_, keeps_trans k1 k2⟩
    show Value.bool _ = Value.bool _
    simp [hi]
theorem ra_nil : RA prog w base D env vals G [] [] := fun _ _ _ _ _ _ _ _ => Calls.spliced_nil ⟨.nil, keeps_self _⟩
theorem ra_cons (h1 : RE prog w base D env vals G e v) (h2 : RA prog w base D env vals G es vs) (hs : starEach (e :: es) env = (false, eval e env) :: starEach es env := by rfl) : RA prog w base D env vals G (e :: es) (v :: vs) := by
  intro pos A E s m hA hD r
  rw [hs]
  show wpAny _ _ (spliced ((false, eval e env) :: backTo pos (starEach es env))) _ _ s
  refine Calls.spliced_cons (thn (h1 A E s m hA hD r) fun u s1 ⟨r1, k1⟩ => ?_)
  exact thn (h2 pos A E s1 m hA hD (r.on k1)) fun us s2 ⟨r2, k2⟩ => ⟨.cons r1 r2, keeps_trans k1 k2⟩
/-- f(e, ..), f an own def -/
theorem re_call {x : Str} {f : Addr} (M : Mod K mg base) (c : RC scope env) (hg : scope.names.lookup x = some .globalImplicit) (hm : mg x = some (.ref f)) (hk : PySem.W.keepIn K (.ref f) = true) (F : RF prog w base D f vs G v)
    (ha : RA prog w base D env vals G (e :: es) vs) (hdb : (x == ("__debug__" : Str)) = false := by decide) (he : starEach (e :: es) env = (false, eval e env) :: starEach es env := by rfl) (hpl : (backTo pos (starEach es env)).any (·.1) = false := by rfl) :
    RE prog w base D env vals G (.Call (.Name x p) (e :: es) [] pos) v := by
  intro A E s m hA hD r
  refine wpAny_Call_Name_kw (ld_g M c r hg hm ?_ hdb)
  refine PySem.W.callWith_K (h₀ := base) M.kin hk (thn (ha pos A E s m hA hD r) fun us s1 ⟨r1, k1⟩ => ⟨M.kin.keeps (r.on k1).hb, ?_⟩) he hpl
  refine wpAny_call (codeAny_mono (F A s1 us hA hD (r.on k1).hb r1 (r.on k1).hG) fun r' s' hq => ?_)
  obtain ⟨u, rfl, ru, k⟩ := hq
  exact ⟨ru, keeps_trans k1 k⟩
theorem kv_call {A : Around} {E : Value → Shared → Prop} {s : Shared} {u : Value} {Q : Value → Shared → Prop} {t T : String} {b : Bool} (X : K.In s.heap) (kv : KV G v t) (hG : ∀ q ∈ G, s.heap.get? q.1 = some q.2) (ru : RelV v u) (h : PySem.W.kitOne K (.type t) (.type T) = some b) (q : ∀ tk, Q (.bool b) { s with toks := tk }) :
    wpAny (model prog w) A (call (.builtin "isinstance") [u, .type T]) Q E s := by
  cases kv with
  | non => cases ru; exact PySem.W.kia_one PySem.W.kitx_none X True.intro h (fun z => nomatch z) q
  | bl => cases ru; exact PySem.W.kia_one PySem.W.kitx_bool X True.intro h (fun z => nomatch z) q
  | int => obtain ⟨t, rfl⟩ := ru; exact PySem.W.kia_one PySem.W.kitx_int X True.intro h (fun z => nomatch z) q
  | str => obtain ⟨t, rfl⟩ := ru; exact PySem.W.kia_one PySem.W.kitx_str X True.intro h (fun z => nomatch z) q
  | lst hm hc => cases (show u = Value.ref _ from ru); exact PySem.W.kia_one PySem.W.kitx_list X ⟨_, hG _ hm, hc⟩ h (fun z => nomatch z) q
  | tup hm hc => cases (show u = Value.ref _ from ru); exact PySem.W.kia_one PySem.W.kitx_tuple X ⟨_, hG _ hm, hc⟩ h (fun z => nomatch z) q
  | dct hm hc => cases (show u = Value.ref _ from ru); exact PySem.W.kia_one PySem.W.kitx_dict X ⟨_, hG _ hm, hc⟩ h (fun z => nomatch z) q
/-- isinstance(e, T) -/
theorem re_isi {T : String} {t : String} {b : Bool} (M : Mod K mg base) (c : RC scope env) (hg : scope.names.lookup ("isinstance" : Str) = some NameKind.globalImplicit) (hm : mg "isinstance" = none)
    (h1 : RE prog w base D env vals G e1 v) (h2 : RE prog w base D env vals G e2 (.ty T)) (kv : KV G v t) (h : PySem.W.kitOne K (.type t) (.type T) = some b)
    (he1 : starEach [e1, e2] env = (false, eval e1 env) :: starEach [e2] env := by rfl) (he2 : starEach [e2] env = (false, eval e2 env) :: starEach [] env := by rfl) (hpl : (backTo pos (starEach [e2] env)).any (·.1) = false := by rfl) :
    RE prog w base D env vals G (.Call (.Name "isinstance" p) [e1, e2] [] pos) (.bl b) := by
  intro A E s m hA hD r
  refine wpAny_Call_Name_kw (ld_b M c r hg hm (by rfl) ?_)
  refine PyProof.Rows.callWith_builtin1 ?_ he1 hpl
  refine thn (ra_cons h1 (ra_cons h2 ra_nil he2) he1 pos A E s m hA hD r) fun us s1 ⟨r1, k1⟩ => ?_
  cases r1 with
  | cons ra rr =>
    cases rr with
    | cons rb rn =>
      cases rn
      cases (show _ = Value.type T from rb)
      exact kv_call (M.kin.keeps (r.on k1).hb) kv (r.on k1).hG ra h fun tk => ⟨rfl, keeps_trans k1 (keeps_tok _ _)⟩
/-- a def whose suite is one return -/
theorem rf_of {f : Addr} {fd : FuncData} {x : Str} {params : Arguments} {rp : Pos} {N ps : List Str} (F : FunD K x x params [.Return (some e) rp] scope [] [] f fd) (M : Mod K mg base) (S : FnScope N ps scope) (hloc : ∀ y ∈ ps, scope.names.lookup y = some .local) (hnd : ps.Nodup)
    (hb : ∀ (kV doc pm : Value) (an : Option Addr) (cdv ct : Value) (us : List Value), us.length = ps.length → bindArgs (PySem.W.fnOf x x params [.Return (some e) rp] scope .none kV doc pm an cdv ct) ⟨us, []⟩ = pure (ps.zip us))
    (hl : vs.length = ps.length) (hD : D < recursionLimit) (body : ∀ env : Env, RC scope env → RE prog w base (D + 1) env (ps.zip vs) G e v) : RF prog w base D f vs G v := by
  intro A s us hA hAD hs r hG
  obtain ⟨oc, od, dV, kV, doc, pm, an, cdv, ct, osl, rfl, lk, hcd, hdv, _⟩ := F.ex
  have KX : K.In s.heap := M.kin.keeps hs
  have lim : s.heap.NoLimit := M.nolimit.keeps hs
  have hul : us.length = ps.length := by rw [← r.length]; exact hl
  have hdn : dV = .none := by
    rcases hdv with ⟨_, h⟩ | ⟨h, _⟩
    · exact h
    · exact absurd rfl h
  subst hdn
  refine codeAny_call_function (Nat.lt_of_le_of_lt hAD hD) (KX _ _ lk) rfl S.co S.gen rfl (PySem.W.codeRec_of KX hcd) ?_
  rw [hb _ _ _ _ _ _ us hul]
  refine wpAny_pure ?_
  refine wpAny_newFunctionEnv_cells S.kind (fun ⟨n, v⟩ hy => .inl (hloc n (List.of_mem_zip hy).1)) fun env he s1 x => ?_
  have hk : ∀ b o, s.heap.get? b = some o → s1.heap.get? b = some o := x.toInCall.keep
  refine ⟨lim.keeps hk, codeAny_func ?_⟩
  have hks : Keeps s s1 := by
    obtain ⟨h1, t1, e1⟩ := x.toInCall.same
    exact ⟨h1, t1, e1, by rw [e1] at hk; exact hk⟩
  have hR : RS base env (ps.zip vs) G _ s1 := ⟨fun b o q => hk b o (hs b o q), x.toInCall.ns, fun q hq => ?_, fun q hq => hk _ _ (hG q hq)⟩
  · have cR : RC scope env := by subst he; exact ⟨S.kind, rfl, rfl, rfl⟩
    refine wpAny_execs_cons (wpAny_Return_some (thn (body env cR (A.deeper env) _ s1 _ hA (Nat.succ_le_succ hAD) hR) fun y s' ⟨ry, ky⟩ => ?_))
    exact ⟨y, rfl, ry, keeps_trans hks ky⟩
  · obtain ⟨i, hi, ei⟩ := List.getElem_of_mem hq
    rw [List.getElem_zip] at ei
    subst ei
    have hi1 : i < ps.length := by rw [List.length_zip] at hi; omega
    have hi2 : i < vs.length := by rw [List.length_zip] at hi; omega
    obtain ⟨u, hu, ru⟩ := r.get (List.getElem?_eq_getElem hi2)
    refine ⟨u, bindL_get hnd (List.getElem?_eq_getElem hi1) hu ?_, ru⟩
    subst he
    exact hloc _ (List.getElem_mem hi1)
end
end Wk
set_option Elab.async false
set_option linter.all false
set_option maxRecDepth 100000
set_option maxHeartbeats 4000000
/-! Wk: all(.. for x in xs), xs a list or a tuple of plain values. -/
namespace Wk
open PySem PySem.Spec PyProof.Rows L2
/-- the kind of a plain value -/
inductive KH (K : PySem.W.Frag) (H : Hp) : V → String → Prop
  | non : KH K H .non "NoneType"
  | bl {b} : KH K H (.bl b) "bool"
  | int {i} : KH K H (.int i) "int"
  | str {z} : KH K H (.str z) "str"
  | lst {a xs} : SqL K H a xs → KH K H (.ref a) "list"
  | tup {a xs} : SqT K H a xs → KH K H (.ref a) "tuple"
theorem KV.more {G G' : Pins} {v : V} {t : String} (h : KV G v t) (hs : ∀ q ∈ G, q ∈ G') : KV G' v t := by
  cases h with
  | non => exact .non
  | bl => exact .bl
  | int => exact .int
  | str => exact .str
  | lst h c => exact .lst (hs _ h) c
  | tup h c => exact .tup (hs _ h) c
  | dct h c => exact .dct (hs _ h) c
section
variable {X : Cx} {pins : List (Addr × Obj)} {σ : L2.St} {H : Hp} {s : Shared}
theorem kv_of {P : Addr} {ps : Array Value} {v : V} {t : String} (I : Inv X pins σ H s) (hP : H P = some (.tbl ps)) (h : KH X.K H v t) : ∃ G : Pins, KV G v t ∧ ∀ q ∈ G, s.heap.get? q.1 = some q.2 ∧ q.1 ≠ P := by
  have nP : ∀ {a : Addr} {o : Obj} {its : Array Value} {n : Nat}, s.heap.get? a = some o → o.data = .seq its n → a ≠ P := fun e d z => by
    rw [z, I.hok P _ hP] at e
    cases e
    cases d
  cases h with
  | non => exact ⟨[], .non, by simp⟩
  | bl => exact ⟨[], .bl, by simp⟩
  | int => exact ⟨[], .int, by simp⟩
  | str => exact ⟨[], .str, by simp⟩
  | @lst a xs e =>
    obtain ⟨its, r, hl, hz⟩ := I.list e
    obtain ⟨o, n, e2, hc, _, hd⟩ := _root_.id hl
    exact ⟨[(a, o)], .lst (List.mem_singleton.mpr rfl) hc, fun q hq => by
      cases List.mem_singleton.mp hq
      exact ⟨e2, nP e2 hd⟩⟩
  | @tup a xs e =>
    obtain ⟨its, r, hl, hz⟩ := I.tuple e
    obtain ⟨o, e2, hc, n, hd⟩ := _root_.id hl
    exact ⟨[(a, o)], .tup (List.mem_singleton.mpr rfl) hc, fun q hq => by
      cases List.mem_singleton.mp hq
      exact ⟨e2, nP e2 hd⟩⟩
theorem kvs_of {P : Addr} {ps : Array Value} (I : Inv X pins σ H s) (hP : H P = some (.tbl ps)) : ∀ (xs : List V), (∀ v ∈ xs, ∃ t, KH X.K H v t) → ∃ G : Pins, (∀ v ∈ xs, ∃ t, KV G v t) ∧ ∀ q ∈ G, s.heap.get? q.1 = some q.2 ∧ q.1 ≠ P
  | [], _ => ⟨[], by simp, by simp⟩
  | v :: xs, h => by
    obtain ⟨t, ht⟩ := h v (List.mem_cons_self ..)
    obtain ⟨G1, k1, g1⟩ := kv_of I hP ht
    obtain ⟨G2, k2, g2⟩ := kvs_of I hP xs fun u hu => h u (List.mem_cons_of_mem _ hu)
    refine ⟨G1 ++ G2, fun u hu => ?_, fun q hq => ?_⟩
    · rcases List.mem_cons.mp hu with rfl | hu
      · exact ⟨t, k1.more fun q hq => List.mem_append_left _ hq⟩
      · obtain ⟨t2, h2⟩ := k2 u hu
        exact ⟨t2, h2.more fun q hq => List.mem_append_right _ hq⟩
    · rcases List.mem_append.mp hq with z | z
      · exact g1 q z
      · exact g2 q z
/-- the element's test -/
def trV (pb : V → Bool) (l : List V) (j : Nat) : Bool := match l[j]? with
  | some b => pb b
  | none => false
theorem trV_some {pb : V → Bool} {l : List V} {j : Nat} {b : V} (h : l[j]? = some b) : trV pb l j = pb b := by
  unfold trV
  rw [h]
theorem all_trV (l : List V) (pb : V → Bool) : (List.range l.length).all (trV pb l) = l.all pb := by
  rw [Bool.eq_iff_iff, List.all_eq_true, List.all_eq_true]
  constructor
  · intro h b hb
    obtain ⟨j, hj, e⟩ := List.getElem_of_mem hb
    have q := h j (List.mem_range.mpr hj)
    rw [trV_some (List.getElem?_eq_getElem hj), e] at q
    exact q
  · intro h j hj
    have hj' := List.mem_range.mp hj
    rw [trV_some (List.getElem?_eq_getElem hj')]
    exact h _ (List.getElem_mem hj')
/-- the generator g over xs, ready to be walked, in the state s5; H1: what was held before -/
def ReadyV (X : Cx) (pins : List (Addr × Obj)) (σ : L2.St) (H1 : Hp) (P : Addr) (xs : List V) (pb : V → Bool) (g : Addr) (s5 : Shared) : Prop :=
  ∃ (fp wr : List Addr) (G : Array GenState → Array GenState → Prop) (F : Nat → Value → Prop) (St : Nat → Shared → Prop),
    WalksS X.prog X.w X.A.in1 g fp wr G xs.length F St ∧ St 0 s5 ∧
    TruthOf X.prog X.w X.A.in1 F (trV pb xs) ∧
    ∀ s', Moved wr G s5 s' → ∃ H2, GxR.Tabbed P H1 H2 ∧ Inv X pins σ H2 s'
/-- what is walked: an iterator object o over the items at y -/
structure Itr (X : Cx) (y : Addr) (its : Array Value) (h0 : Heap) (o : Obj) (St0 : Addr → Nat → Heap → Prop) : Prop where
  w : ∀ (I : Addr) (A' : Around), y ≠ I → A'.handled = none → Walks X.prog X.w A' I [I, y] [I] its.size (fun i v => its[i]? = some v) (St0 I)
  st : St0 h0.objs.size 0 (h0.push o)
  lt : y < h0.objs.size
theorem gen_val {c P : Addr} {elt : Expr} {x : Str} {gpos : Pos} {scope : Scope} {pb : V → Bool} {k : Nat} {Q' : Value → Shared → Prop} {y : Addr} {its : List Value} {xs : List V} {o : Obj} {St0 : Addr → Nat → Heap → Prop} {s1 : Shared} {H1 : Hp} {ps : Array Value}
    (hr : Room k X.A) (TB : GxR.TabB X.base X.mg c P) (hcode : X.env.code = .ref c) (S : GxR.GenS X.env scope x)
    (hel : Mod X.K X.mg X.base → ∀ (cenv : Env) (G : Pins) (v : V) (t : String), RC scope cenv → KV G v t → RE X.prog X.w X.base (X.A.depth + 1) cenv [(x, v)] G elt (.bl (pb v)))
    (I1 : Inv X pins σ H1 s1) (hP : H1 P = some (.tbl ps)) (ht : TriplesOk ps.toList) (hxs : ∀ v ∈ xs, ∃ t, KH X.K H1 v t) (rv : Vals xs its) (hyP : y ≠ P) (IT : Itr X y its.toArray s1.heap o St0)
    (hQ : ∀ g s5, ReadyV X pins σ H1 P xs pb g s5 → Q' (.ref g) s5) :
    (s1.heap.push o).NoLimit ∧ wpAny (model X.prog X.w) X.A (genexprCode X.env gpos (X.env.qual ++ "<genexpr>") scope) (fun code s₃ => wpAny (model X.prog X.w) X.A (builtinsFor X.env.globals X.env.builtins) (fun bi s₄ =>
        ∃ Ia fp wr n₀ Pf St₀ pz F, Value.ref s1.heap.objs.size = .ref Ia ∧ (∀ A' : Around, A'.handled = none → Walks X.prog X.w A' Ia fp wr n₀ Pf St₀) ∧ St₀ 0 s₄.heap ∧ (∀ b ∈ fp, b < s₄.heap.objs.size) ∧ s₄.heap.NoLimit ∧ cStatics ∉ wr ∧
          (∀ href : Heap, (∀ b o, s₄.heap.get? b = some o → href.get? b = some o) →
            QuietGenD X.prog X.w (genEnv scope (cloFrom X.env.cells scope.names []) s₄.heap.objs.size code bi X.env) x [] elt (List.range s₄.heap.objs.size) wr Pf pz F href (X.A.depth + 1) (X.A.units + 8)) ∧
          (∀ a h₅ tk gs, gs.bare = true → s₄.heap.objs.size < a → h₅.objs.size = a + 1 → (∀ b o, s₄.heap.get? b = some o → h₅.get? b = some o) →
            WalksS X.prog X.w X.A.in4 a (a :: s₄.heap.objs.size :: List.range s₄.heap.objs.size) (s₄.heap.objs.size :: wr) (GenOnlyQ s₄.gens.size) (passing pz n₀ 0).length
              (fun j y => ∃ i, (passing pz n₀ 0)[j]? = some i ∧ F i y) (GenAt X.prog X.w X.A.in4 a s₄.gens.size s₄.heap.objs.size (List.range s₄.heap.objs.size) wr pz n₀ F) →
            GenAt X.prog X.w X.A.in4 a s₄.gens.size s₄.heap.objs.size (List.range s₄.heap.objs.size) wr pz n₀ F 0 { s₄ with gens := s₄.gens.push gs, toks := tk, heap := h₅ } →
            Q' (.ref a) { s₄ with gens := s₄.gens.push gs, toks := tk, heap := h₅ })) X.xe s₃) X.xe { s1 with heap := s1.heap.push o } := by
  obtain ⟨G, hkv, hG⟩ := kvs_of I1 hP xs hxs
  have hlen : its.length = xs.length := by rw [← rv.length]
  have hat : ∀ (i : Nat) (u : Value), its.toArray[i]? = some u → ∃ v, xs[i]? = some v ∧ RelV v u := fun i u hv => by
    have hv2 : its[i]? = some u := by simpa using hv
    have hi2 : i < its.length := (List.getElem?_eq_some_iff.mp hv2).1
    obtain ⟨a, ha⟩ : ∃ a, xs[i]? = some a := ⟨xs[i]'(by omega), List.getElem?_eq_getElem _⟩
    obtain ⟨u2, hu, ru⟩ := rv.get ha
    rw [hv2] at hu
    cases hu
    exact ⟨a, ha, ru⟩
  have hPs : s1.heap.get? P = some { cls := .none, data := .fields ps } := I1.hok P _ hP
  have hPlt : P < s1.heap.objs.size := Heap.lt_size hPs
  have hP2 : (s1.heap.push o).get? P = some { cls := .none, data := .fields ps } := Heap.get?_push_of_some _ hPs
  have cd : PySem.W.CodeHd (s1.heap.push o) c P := TB.code.keeps fun b u e => Heap.get?_push_of_some _ (I1.bk b u e)
  have lim2 : (s1.heap.push o).NoLimit := I1.nolimit.push o
  have hylt := IT.lt
  have cont : ∀ (code : Value) (h3 : Heap) (tk : Nat) (ps' : Array Value), Heap.ExtBut P (s1.heap.push o) h3 → (s1.heap.push o).objs.size ≤ h3.objs.size → h3.get? P = some { cls := .none, data := .fields ps' } → (∃ more, ps' = ps ++ more) → TriplesOk ps'.toList →
      wpAny (model X.prog X.w) X.A (builtinsFor X.env.globals X.env.builtins) (fun bi s₄ =>
        ∃ Ia fp wr n₀ Pf St₀ pz F, Value.ref s1.heap.objs.size = .ref Ia ∧ (∀ A' : Around, A'.handled = none → Walks X.prog X.w A' Ia fp wr n₀ Pf St₀) ∧ St₀ 0 s₄.heap ∧ (∀ b ∈ fp, b < s₄.heap.objs.size) ∧ s₄.heap.NoLimit ∧ cStatics ∉ wr ∧
          (∀ href : Heap, (∀ b o, s₄.heap.get? b = some o → href.get? b = some o) →
            QuietGenD X.prog X.w (genEnv scope (cloFrom X.env.cells scope.names []) s₄.heap.objs.size code bi X.env) x [] elt (List.range s₄.heap.objs.size) wr Pf pz F href (X.A.depth + 1) (X.A.units + 8)) ∧
          (∀ a h₅ tk gs, gs.bare = true → s₄.heap.objs.size < a → h₅.objs.size = a + 1 → (∀ b o, s₄.heap.get? b = some o → h₅.get? b = some o) →
            WalksS X.prog X.w X.A.in4 a (a :: s₄.heap.objs.size :: List.range s₄.heap.objs.size) (s₄.heap.objs.size :: wr) (GenOnlyQ s₄.gens.size) (passing pz n₀ 0).length
              (fun j y => ∃ i, (passing pz n₀ 0)[j]? = some i ∧ F i y) (GenAt X.prog X.w X.A.in4 a s₄.gens.size s₄.heap.objs.size (List.range s₄.heap.objs.size) wr pz n₀ F) →
            GenAt X.prog X.w X.A.in4 a s₄.gens.size s₄.heap.objs.size (List.range s₄.heap.objs.size) wr pz n₀ F 0 { s₄ with gens := s₄.gens.push gs, toks := tk, heap := h₅ } →
            Q' (.ref a) { s₄ with gens := s₄.gens.push gs, toks := tk, heap := h₅ })) X.xe { s1 with heap := h3, toks := tk } := by
    intro code h3 tk ps' hx hsz hP3 hmore ht3
    obtain ⟨bm, ob, e1, e2, e3, e4, e5, e6, e7, e8⟩ := TB.bm
    have hcP : cStatics ≠ P := fun e => by
      obtain ⟨_, hns, _⟩ := I1.nolimit
      obtain ⟨o', es, ep, ho, hd, _⟩ := hns
      rw [e, hPs] at ho
      cases ho
      cases hd
    have hcl : cStatics < s1.heap.objs.size := let ⟨_, hns, _⟩ := I1.nolimit; hns.lt
    have sz2 : (s1.heap.push o).objs.size = s1.heap.objs.size + 1 := Heap.size_push ..
    have keep3 : ∀ b u, b ≠ P → s1.heap.get? b = some u → h3.get? b = some u := fun b u hb e => hx b u hb (Heap.get?_push_of_some _ e)
    have hbP : ∀ b u, X.base.get? b = some u → b ≠ P := fun b u e z => by
      have e2 := (I1.bs b u e).2
      rw [z, hP] at e2
      cases e2
    refine wpAny_builtinsFor (m := X.mg) (by rw [I1.ok.glob]; exact ((I1.mod.glob.keeps I1.bk).push o).extBut hx TB.gP) e1 e2 (keep3 _ _ e4 (I1.bk _ _ e5)) e6 e7 e8 ?_
    refine ⟨s1.heap.objs.size, [s1.heap.objs.size, y], [s1.heap.objs.size], its.toArray.size, (fun i v => its.toArray[i]? = some v), St0 s1.heap.objs.size, (fun _ => true),
      (fun i z => ∃ v, xs[i]? = some v ∧ z = .bool (pb v)), rfl, (fun A' hA => IT.w _ A' (Nat.ne_of_lt hylt) hA), ?_, ?_, lim2.extBut hx hcP, ?_, ?_, ?_⟩
    · refine (IT.w _ X.A (Nat.ne_of_lt hylt) hr.hd).frame _ _ _ IT.st fun b hb u e => hx b u (fun z => ?_) e
      rcases List.mem_cons.mp hb with z2 | z2
      · exact Nat.ne_of_lt hPlt (z.symm.trans z2)
      · exact hyP ((List.mem_singleton.mp z2).symm.trans z)
    · intro b hb
      rcases List.mem_cons.mp hb with z | z
      · rw [z]
        show s1.heap.objs.size < h3.objs.size
        omega
      · rw [List.mem_singleton.mp z]
        have e9 : s1.heap.objs.size ≤ h3.objs.size := by omega
        exact Nat.lt_of_lt_of_le hylt e9
    · intro z
      rcases List.mem_cons.mp z with z | z
      · exact Nat.ne_of_lt hcl z
      · cases z
    · intro href hhref
      refine ⟨fun A' E' i v s₂ m₂ hA hD hU hPv hn hm hk => ?_, fun A' E' i u s₂ m₂ hA hD hU hPv hp hn hm hk => ?_⟩
      · simp only [List.forIn_nil]
        exact wpAny_pure ⟨rfl, keeps_self _⟩
      · obtain ⟨v, hv, ru⟩ := hat i u hPv
        obtain ⟨t, kv⟩ := hkv v (List.mem_of_getElem? hv)
        have kept : ∀ b q, b ≠ P → s1.heap.get? b = some q → s₂.heap.get? b = some q := fun b q hb e => by
          have hl := Heap.lt_size e
          refine hk b (List.mem_range.mpr (Nat.lt_of_lt_of_le hl (show s1.heap.objs.size ≤ h3.objs.size by omega))) (fun z => ?_) q (hhref b q (keep3 b q hb e))
          rw [List.mem_singleton.mp z] at hl
          exact Nat.lt_irrefl _ hl
        have hR : RS X.base (genEnv scope (cloFrom X.env.cells scope.names []) h3.objs.size code builtinsNs X.env) [(x, v)] G m₂ s₂ :=
          ⟨fun b q e => kept b q (hbP b q e) (I1.bk b q e), hn, fun q hq => by cases List.mem_singleton.mp hq; exact ⟨u, hm, ru⟩, fun q hq => kept q.1 q.2 (hG q hq).2 (hG q hq).1⟩
        refine wpAny_mono (hel I1.mod (genEnv scope (cloFrom X.env.cells scope.names []) h3.objs.size code builtinsNs X.env) G v t ⟨S.kind, rfl, I1.ok.glob, rfl⟩ kv A' E' s₂ m₂ hA hD hR) (fun z s3 r => ⟨⟨v, hv, ?_⟩, r.2⟩) fun _ _ e => e
        exact r.1
    · intro g h5 tk5 gs hgb hag hsz5 hk5 W5 hgat
      simp only [GxR.passing_true, List.length_range] at W5
      have hn5 : its.toArray.size = xs.length := by rw [List.size_toArray, hlen]
      rw [hn5] at W5 hgat
      refine hQ g _ ⟨_, _, _, _, _, W5.in4_1, hgat, ?_, fun s' hm => ?_⟩
      · intro j z sj Qj Ej hy hQj
        obtain ⟨i, hij, v, hv, rfl⟩ := hy
        obtain ⟨hj, ej⟩ := List.getElem?_eq_some_iff.mp hij
        rw [List.getElem_range] at ej
        subst ej
        rw [trV_some hv] at hQj
        exact wpAny_truthy_bool hQj
      · obtain ⟨more, em⟩ := hmore
        have nwr : ∀ b u, s1.heap.get? b = some u → b ∉ h3.objs.size :: [s1.heap.objs.size] := fun b u e hb => by
          have hl := Heap.lt_size e
          rcases List.mem_cons.mp hb with z | z
          · rw [z] at hl
            have h9 : (h3.objs.size : Nat) < s1.heap.objs.size := hl
            omega
          · rcases List.mem_cons.mp z with z | z
            · rw [z] at hl
              exact Nat.lt_irrefl _ hl
            · cases z
        have J := GxR.inv_tab (more := more) (h' := s'.heap) (g' := s'.gens) (d' := s'.drawn) (t' := s'.toks) I1 hP (fun b u hb e => hm.heap b u (nwr b u e) (hk5 b u (keep3 b u hb e)))
          (by rw [← em]; exact hm.heap P _ (nwr P _ hPs) (hk5 P _ hP3)) (AllBare.movedS (I1.bare.push hgb) hm)
        rw [GxR.sh_eta s1 s' hm.os] at J
        refine ⟨upd H1 P (.tbl (ps ++ more)), ⟨⟨ps ++ more, upd_same, by rw [← em]; exact ht3⟩, fun b hb => upd_ne hb⟩, J⟩
  refine ⟨lim2, ?_⟩
  cases hf : codeAmong gpos ps.toList with
  | none =>
    refine wpAny_genexprCodeX hcode (cd.code hP2 ht) (cd.tab hP2) hf fun c' h' tk hx hge hlt hco' _ htab' _ => ?_
    obtain ⟨o1, vs, f1, tf, fl, tg, inF, tx, tt, op, _, _, _, _, _, _, _, _, _, htr, _⟩ := hco'
    exact cont _ h' tk _ hx (Nat.le_trans hge (Nat.le_of_lt hlt)) htab'.2 ⟨_, rfl⟩ htr
  | some cv =>
    refine wpAny_genexprCode_hit hcode (cd.code hP2 ht) hf ?_
    exact cont cv (s1.heap.push o) s1.toks ps (Heap.ExtBut.refl _ _) (Nat.le_refl _) hP2 ⟨#[], by simp⟩ ht
/-- all(test for x in e), e a list or a tuple of plain values; behind it the def's table may have grown -/
def tAllV (K : PySem.W.Frag) (P : Addr) (pb : V → Bool) (te : TE) : TE := fun σ H Q => te σ H fun v H1 => ∃ (y : Addr) (xs : List V), v = .ref y ∧ (SqL K H1 y xs ∨ SqT K H1 y xs) ∧ (∀ v ∈ xs, ∃ t, KH K H1 v t) ∧ GxR.TabG H1 P ∧ ∀ H2, GxR.Tabbed P H1 H2 → Q (.bl (xs.all pb)) H2
theorem pe_allV {c P : Addr} {elt iter : Expr} {x : Str} {px p pos gpos : Pos} {scope : Scope} {pb : V → Bool} {te : TE} {k : Nat}
    (hr : Room k X.A) (hg : Gl X "all") (hm : X.mg "all" = none) (TB : GxR.TabB X.base X.mg c P) (hcode : X.env.code = .ref c) (S : GxR.GenS X.env scope x) (hi : PE X iter te)
    (hel : Mod X.K X.mg X.base → ∀ (cenv : Env) (G : Pins) (v : V) (t : String), RC scope cenv → KV G v t → RE X.prog X.w X.base (X.A.depth + 1) cenv [(x, v)] G elt (.bl (pb v)))
    (hs : ∀ v, genFold iter X.env v = pure v)
    (he : starEach [.GeneratorExp elt [⟨.Name x px, iter, [], 0⟩] scope gpos] X.env = (false, eval (.GeneratorExp elt [⟨.Name x px, iter, [], 0⟩] scope gpos) X.env) :: starEach [] X.env := by rfl) :
    PE X (.Call (.Name "all" p) [.GeneratorExp elt [⟨.Name x px, iter, [], 0⟩] scope gpos] [] pos) (tAllV X.K P pb te) := by
  refine ⟨fun pins s σ H Q I h => ?_⟩
  refine wpAny_Call_Name_kw (ld_blt I hg hm (by rfl) ?_)
  refine PyProof.Rows.callWith_builtin1 ?_ he (by rfl)
  rw [he]
  show wpAny _ _ (spliced ((false, eval (.GeneratorExp elt [⟨.Name x px, iter, [], 0⟩] scope gpos) X.env) :: backTo pos (starEach [] X.env))) _ _ s
  refine Calls.spliced_cons ?_
  refine wpAny_GeneratorExp_walksQD hr.hd S.co (closure_ok S.free) S.cell S.dot S.loc S.kind (by have := hr.dp; omega) ?_ hs
  refine thn (hi.run pins s σ H _ I h) fun xv s1 ⟨v, H1, I1, r1, q1⟩ => ?_
  obtain ⟨y, xs, rfl, hy, hxs, ⟨ps, hP, ht⟩, hR⟩ := q1
  obtain rfl : xv = Value.ref y := r1
  have fin : ∀ g s5, ReadyV X pins σ H1 P xs pb g s5 → (fun u s₁ => wpAny (model X.prog X.w) X.A (spliced (backTo pos (starEach [] X.env))) (fun vs s₁ => wpAny (model X.prog X.w) X.A (call (.builtin "all") (u :: vs)) (EP X pins σ Q) X.xe s₁) X.xe s₁) (.ref g) s5 := fun g s5 hG => by
    obtain ⟨fp, wr, G, F, St, W, hst, htr, hI⟩ := hG
    refine Calls.spliced_nil ?_
    refine call_all_walkS (W.self 0 _ _ _ hst ⟨g, fp, wr, G, _, F, St, _, rfl, W, hst, htr, fun s' hmv => ?_⟩)
    obtain ⟨H2, hT, J⟩ := hI s' hmv
    refine ⟨.bl _, H2, J, rfl, ?_⟩
    rw [all_trV]
    exact hR H2 hT
  rcases hy with hy | hy
  · obtain ⟨its, rv, hl, hz⟩ := I1.list hy
    have hIL := hl.isList
    have hyP : y ≠ P := fun z => by
      obtain ⟨_, e, hc1, _, hd1⟩ := _root_.id hIL
      rw [z, I1.hok P _ hP] at e
      cases e
      cases hd1
    refine wpAny_pyIter_list hIL ?_
    refine gen_val (Q' := fun u s₁ => wpAny (model X.prog X.w) X.A (spliced (backTo pos (starEach [] X.env))) (fun vs s₁ => wpAny (model X.prog X.w) X.A (call (.builtin "all") (u :: vs)) (EP X pins σ Q) X.xe s₁) X.xe s₁) (St0 := fun I i h => h.IsListIter I y i ∧ h.IsList y its.toArray) hr TB hcode S hel I1 hP ht hxs rv hyP ⟨fun I A' hne hA => Walks.list hA I y hne _, ?_, ?_⟩ fin
    · exact ⟨⟨_, Heap.get?_push_size _ rfl, rfl, rfl⟩, by
        obtain ⟨ob, e, r⟩ := _root_.id hIL
        exact ⟨ob, Heap.get?_push_of_some _ e, r⟩⟩
    · obtain ⟨_, e, _⟩ := _root_.id hIL
      exact Heap.lt_size e
  · obtain ⟨its, rv, hl, hz⟩ := I1.tuple hy
    have hIT : s1.heap.IsTuple y its.toArray := hl
    have hyP : y ≠ P := fun z => by
      obtain ⟨_, e, hc1, hd1⟩ := _root_.id hl
      obtain ⟨_, hd1⟩ := hd1
      rw [z, I1.hok P _ hP] at e
      cases e
      cases hd1
    refine wpAny_pyIter_tuple hIT ?_
    refine gen_val (Q' := fun u s₁ => wpAny (model X.prog X.w) X.A (spliced (backTo pos (starEach [] X.env))) (fun vs s₁ => wpAny (model X.prog X.w) X.A (call (.builtin "all") (u :: vs)) (EP X pins σ Q) X.xe s₁) X.xe s₁) (St0 := fun I i h => h.IsTupleIter I y i ∧ h.IsTuple y its.toArray) hr TB hcode S hel I1 hP ht hxs rv hyP ⟨fun I A' hne hA => Walks.tuple hA I y hne _, ?_, ?_⟩ fin
    · exact ⟨⟨_, Heap.get?_push_size _ rfl, rfl, rfl⟩, hIT.at fun o e => Heap.get?_push_of_some _ e⟩
    · obtain ⟨_, e, _⟩ := _root_.id hl
      exact Heap.lt_size e
end
end Wk
set_option Elab.async false
set_option linter.all false
set_option maxRecDepth 100000
set_option maxHeartbeats 4000000
/-! Wk: calls without arguments, by keywords alone; own classes: methods, properties, making. -/
namespace Wk
open PySem PySem.Spec PyProof.Rows L2
/-- a def that is called with n positional values and these keywords -/
structure CalK (P : Program) (w : World) (K : PySem.W.Frag) (mg : Str → Option Value) (base : Heap) (k : Nat) (x : Str) (sp : Sp) (n : Nat) (ks : List Str) (gV : List V → List V → List V) : Prop where
  ex : ∃ (f : Addr) (fd : FuncData) (ps : List Str) (g : List Value → List Value → List Value), FnOk P w K mg base C8.CX0 k f fd ps sp ∧ mg x = some (.ref f) ∧ PySem.W.keepIn K (.ref f) = true ∧ KBn K fd ps n ks g gV
/-- a property of the class at C -/
structure Prp (P : Program) (w : World) (K : PySem.W.Frag) (mg : Str → Option Value) (base : Heap) (k : Nat) (C : Addr) (m : Str) (sp : Sp) : Prop where
  ex : ∃ (p f : Addr) (fd : FuncData) (ps : List Str), Cls K C ∧ PropOf K C m p f ∧ FnOk P w K mg base C8.CX0 k f fd ps sp ∧ Binds K fd ps []
def tCallK (m : Nat) (sp : Sp) (gV : List V → List V → List V) (E : XK) (tk : TA) : TE := fun σ H Q => tk σ H fun zs H2 => zs.length = m ∧ sp (gV [] zs) H2 Q E
section
variable {X : Cx} {j k : Nat} {x m : Str} {sp : Sp} {dvs : List V} {ks : List Str} {gV : List V → List V → List V} {p pos apos : Pos} {kws : List Keyword} {tk : TA} {C : Addr} {o : Expr} {ta : TE}
theorem pe_c0 (c : C8.Cal X.prog X.w X.K X.mg X.base k x sp dvs) (hr : Room j X.A) (hk : k ≤ j) (hg : Gl X x) (hdb : (x == ("__debug__" : Str)) = false := by decide) : PE X (.Call (.Name x p) [] [] pos) (tCall sp dvs C8.E0 tNil) := by
  obtain ⟨f, fd, ps, ds, F, hm, kp, b, d⟩ := c.ex
  exact pe_call0 F (hr.mono hk) hg hm kp b d C8.pass0 hdb
theorem pe_mk0 (c : C8.Mak X.prog X.w X.K X.mg X.base k x C sp dvs) (hr : Room j X.A) (hk : k + 1 ≤ j) (hg : Gl X x) (hdb : (x == ("__debug__" : Str)) = false := by decide) : PE X (.Call (.Name x p) [] [] pos) (tMake C sp dvs C8.E0 tNil) := by
  obtain ⟨f, fd, ps, ds, M, F, hm, b, d⟩ := c.ex
  exact pe_make0 M F (hr.mono hk) hg hm b d C8.pass0 hdb
/-- f(k = v, ..) -/
theorem pe_ck (c : CalK X.prog X.w X.K X.mg X.base k x sp 0 ks gV) (hr : Room j X.A) (hk : k ≤ j) (hg : Gl X x) (hkw : PK X kws tk) (hall : (backToKw pos (keywordEach kws X.env)).all (·.1.isSome) = true := by rfl) (hks : (backToKw pos (keywordEach kws X.env)).filterMap (·.1) = ks := by rfl)
    (hdb : (x == ("__debug__" : Str)) = false := by decide) (hpl : ((backTo pos (starEach [] X.env)).any (·.1) || (backToKw pos (keywordEach kws X.env)).any (·.1.isNone)) = false := by rfl) :
    PE X (.Call (.Name x p) [] kws pos) (tCallK ks.length sp gV C8.E0 tk) := by
  obtain ⟨f, fd, ps, g, F, hm, kp, b⟩ := c.ex
  refine ⟨fun pins s σ H Q I h => ?_⟩
  refine wpAny_Call_Name_kw (ld_glob I hg hm ?_ hdb)
  refine PySem.W.callWith_KW0 (h₀ := X.base) I.ok.mod.kin kp hall ?_ hpl
  refine thn (hkw.run pos pins s σ H _ I h) fun ws s2 ⟨zs, H2, I2, rz, l2, q2⟩ => ⟨I2.kIn, ?_⟩
  rw [hks]
  exact run_fnN F (hr.mono hk) b C8.pass0 I2 .nil rz rfl l2 q2
/-- f(e, .., k = v, ..) -/
theorem pe_ckp {n : Nat} {e : Expr} {es : List Expr} {t : TA} (c : CalK X.prog X.w X.K X.mg X.base k x sp n ks gV) (hr : Room j X.A) (hk : k ≤ j) (hg : Gl X x) (ha : PA X (e :: es) t) (hkw : PK X kws tk) (hall : (backToKw pos (keywordEach kws X.env)).all (·.1.isSome) = true := by rfl) (hks : (backToKw pos (keywordEach kws X.env)).filterMap (·.1) = ks := by rfl)
    (hdb : (x == ("__debug__" : Str)) = false := by decide) (he : starEach (e :: es) X.env = (false, eval e X.env) :: starEach es X.env := by rfl) (hpl : ((backTo pos (starEach (e :: es) X.env)).any (·.1) || (backToKw pos (keywordEach kws X.env)).any (·.1.isNone)) = false := by rfl) :
    PE X (.Call (.Name x p) (e :: es) kws pos) (tCallN n ks.length sp gV C8.E0 t tk) := by
  obtain ⟨f, fd, ps, g, F, hm, kp, b⟩ := c.ex
  exact pe_callN F (hr.mono hk) hg hm kp b C8.pass0 ha hkw hall hks hdb he hpl
/-- e.m, a property -/
theorem pe_pr (c : Prp X.prog X.w X.K X.mg X.base k C m sp) (hr : Room j X.A) (hk : k + 1 ≤ j) (he : PE X o ta) (hab : attributeBase o m X.env (eval o X.env) = eval o X.env := by rfl) : PE X (.Attribute o m pos) (tProp C sp [] C8.E0 ta) := by
  obtain ⟨q, f, fd, ps, hc, hp, F, b⟩ := c.ex
  exact pe_prop he hc hp F (hr.mono hk) b .nil C8.pass0 hab
end
/-! ### steps -/
def KMeth (C : Addr) (m : Str) (sp : Sp) (dvs : List V) (E : XK) (t : TA) (σ : L2.St) (Q : VK) (x : V) (H1 : Hp) : Prop := ∃ a dx fs, x = .ref a ∧ H1 a = some (.ins C dx fs) ∧ fs.lookup m = none ∧ t σ H1 fun vs H2 => sp (x :: (vs ++ dvs)) H2 Q E
def KMake (C : Addr) (sp : Sp) (dvs : List V) (E : XK) (Q : VK) (vs : List V) (H1 : Hp) : Prop := ∀ x dx, H1 x = none → H1 dx = none → dx ≠ x → sp (.ref x :: (vs ++ dvs)) (upd (upd H1 dx (.own x)) x (.ins C dx [])) (fun v H2 => v = .non ∧ Q (.ref x) H2) E
def KProp (C : Addr) (sp : Sp) (E : XK) (Q : VK) (x : V) (H1 : Hp) : Prop := ∃ a dx fs, x = .ref a ∧ H1 a = some (.ins C dx fs) ∧ sp [.ref a] H1 Q E
section
variable {σ : L2.St} {H : Hp} {Q : VK} {C : Addr} {m : Str} {sp : Sp} {dvs : List V} {E : XK} {t : TA} {ta te : TE} {a dx : Addr} {fs : List (Str × V)} {n : Nat} {gV : List V → List V → List V} {D : Ends} {f : Str} {K : PySem.W.Frag} {v : V}
theorem w_meth (h : ta σ H fun x H1 => KMeth C m sp dvs E t σ Q x H1) : tMeth C m sp dvs E ta t σ H Q := h
theorem w_kmeth (ho : H a = some (.ins C dx fs)) (l : fs.lookup m = none) (h : t σ H fun vs H2 => sp (.ref a :: (vs ++ dvs)) H2 Q E) : KMeth C m sp dvs E t σ Q (.ref a) H := ⟨a, dx, fs, rfl, ho, l, h⟩
theorem w_make (h : t σ H fun vs H1 => KMake C sp dvs E Q vs H1) : tMake C sp dvs E t σ H Q := h
theorem w_prop (h : ta σ H fun x H1 => KProp C sp E Q x H1) : tProp C sp [] E ta σ H Q := h
theorem w_kprop (ho : H a = some (.ins C dx fs)) (h : sp [.ref a] H Q E) : KProp C sp E Q (.ref a) H := ⟨a, dx, fs, rfl, ho, h⟩
theorem w_callN {n m : Nat} {tk : TA} (h : t σ H fun vs H1 => tk σ H1 fun zs H2 => vs.length = n ∧ zs.length = m ∧ sp (gV vs zs) H2 Q E) : tCallN n m sp gV E t tk σ H Q := h
theorem w_callK (h : t σ H fun zs H2 => zs.length = n ∧ sp (gV [] zs) H2 Q E) : tCallK n sp gV E t σ H Q := h
end
section
variable {K : PySem.W.Frag}
theorem w_gtup {n : Nat} {t : TGs} {σ : L2.St} {a : Addr} {xs : List V} {H : Hp} {R : L2.St → Hp → Prop} (h : SqT K H a xs) (hn : xs.length = n) (q : t xs σ H R) : gTup K n t (.ref a) σ H R := ⟨a, xs, rfl, h, hn, q⟩
theorem w_gcons {t : TG} {u : TGs} {v : V} {r : List V} {σ : L2.St} {H : Hp} {R : L2.St → Hp → Prop} (q : t v σ H fun σ' H' => u r σ' H' R) : gCons t u (v :: r) σ H R := ⟨v, r, rfl, q⟩
theorem w_gnil {σ : L2.St} {H : Hp} {R : L2.St → Hp → Prop} (q : R σ H) : gNil [] σ H R := ⟨rfl, q⟩
theorem w_gname {n : Nat} {v : V} {σ : L2.St} {H : Hp} {R : L2.St → Hp → Prop} (q : R (σ.set n (some v)) H) : gName n v σ H R := q
def KStar (K : PySem.W.Frag) (t : TA) (σ : L2.St) (Q : List V → Hp → Prop) (x : V) (H1 : Hp) : Prop := ∃ p xs, x = V.ref p ∧ (SqT K H1 p xs ∨ SqL K H1 p xs) ∧ t σ H1 fun ys H2 => Q (xs ++ ys) H2
theorem w_star {te : TE} {t : TA} {σ : L2.St} {H : Hp} {Q : List V → Hp → Prop} (h : te σ H fun x H1 => KStar K t σ Q x H1) : StX.tStar K te t σ H Q := h
theorem w_kstarL {t : TA} {σ : L2.St} {H : Hp} {Q : List V → Hp → Prop} {p : Addr} {xs : List V} (e : SqL K H p xs) (h : t σ H fun ys H2 => Q (xs ++ ys) H2) : KStar K t σ Q (.ref p) H := ⟨p, xs, rfl, .inr e, h⟩
theorem w_kstarT {t : TA} {σ : L2.St} {H : Hp} {Q : List V → Hp → Prop} {p : Addr} {xs : List V} (e : SqT K H p xs) (h : t σ H fun ys H2 => Q (xs ++ ys) H2) : KStar K t σ Q (.ref p) H := ⟨p, xs, rfl, .inl e, h⟩
end
section
variable {K : PySem.W.Frag} {H : Hp} {Q : VK} {x : V}
theorem c_isiT2 {t A B : String} {a b r : Bool} {tp : Addr} (ht : H tp = some (.tup [.ty A, .ty B])) (ty : TyX K H x (.type t)) (ha : kitB t A = some a) (hb : kitB t B = some b) (hr : (a || b) = r) (q : Q (.bl r) H) : CB (rIsiT K) [x, .ref tp] H Q := by
  refine ⟨x, tp, _, .type t, [.type A, .type B], r, rfl, ht, .cons (.ty A) (.cons (.ty B) .nil), ty, ?_, q⟩
  subst hr
  have e1 := kit_ty (K := K) ha
  have e2 := kit_ty (K := K) hb
  cases a <;> cases b <;> simp [PySem.W.kitAny, e1, e2]
theorem w_cat {l b : Addr} {xs zs : List V} (h1 : H l = some (.lst xs)) (h2 : H b = some (.lst zs)) (hz : xs.length + zs.length ≤ sizeLine) (q : ∀ p H2, New H H2 p (.lst (xs ++ zs)) → Q (.ref p) H2) : rCat (.ref l) (.ref b) H Q :=
  ⟨l, b, xs, zs, rfl, rfl, h1, h2, hz, fun p hp => q p _ (New.of hp)⟩
theorem w_rep {l : Addr} {k : Int} {xs : List V} (h1 : H l = some (.lst xs)) (h2 : -(2 ^ 63) ≤ k) (h3 : k < 2 ^ 63) (hz : xs.length * k.toNat ≤ sizeLine) (q : ∀ p H2, New H H2 p (.lst (List.replicate k.toNat xs).flatten) → Q (.ref p) H2) : rRep (.ref l) (.int k) H Q :=
  ⟨l, k, xs, rfl, rfl, h1, h2, h3, hz, fun p hp => q p _ (New.of hp)⟩
def KSFld (K : PySem.W.Frag) (f : Str) (D : Ends) (σ : L2.St) (y x : V) (H2 : Hp) : Prop := ∃ a C dx fs, x = .ref a ∧ H2 a = some (.ins C dx fs) ∧ Cls K C ∧ NoAttr K C f ∧ fs.length < 1000 ∧ D.nx σ (upd H2 a (.ins C dx (putF f y fs)))
theorem w_sfld {ta tv : TE} {f : Str} {D : Ends} {σ : L2.St} (h : tv σ H fun y H1 => ta σ H1 fun x H2 => KSFld K f D σ y x H2) : sFld K ta tv f D σ H := h
theorem w_ksfld {f : Str} {D : Ends} {σ : L2.St} {y : V} {a C dx : Addr} {fs : List (Str × V)} (ho : H a = some (.ins C dx fs)) (c : Cls K C) (n : NoAttr K C f) (hl : fs.length < 1000) (q : ∀ H2, Chg H H2 a (.ins C dx (putF f y fs)) → D.nx σ H2) : KSFld K f D σ y (.ref a) H :=
  ⟨a, C, dx, fs, rfl, ho, c, n, hl, q _ Chg.of⟩
end
section
variable {K : PySem.W.Frag} {H H1 : Hp} {a tP : Addr} {xs : List V}
theorem tab_ne {o : HO} (e : H a = some o) (t : GxR.TabG H tP) (ho : ∀ ps, o ≠ .tbl ps) : a ∉ [tP] := fun z => by
  obtain ⟨ps, h, _⟩ := t
  rw [List.mem_singleton.mp z, h] at e
  exact ho ps (Option.some.inj e).symm
theorem tabT (h : SqT K H a xs) (t : GxR.TabG H tP) (u : Upt [tP] H H1) : SqT K H1 a xs := by
  rcases h with (h | ⟨q, h⟩) | h
  · exact .inl (.inl (u a _ (tab_ne h t fun _ z => by cases z) h))
  · exact .inl (.inr ⟨q, u a _ (tab_ne h t fun _ z => by cases z) h⟩)
  · exact .inr h
theorem tabL (h : SqL K H a xs) (t : GxR.TabG H tP) (u : Upt [tP] H H1) : SqL K H1 a xs := by
  rcases h with (h | ⟨q, h⟩) | h
  · exact .inl (.inl (u a _ (tab_ne h t fun _ z => by cases z) h))
  · exact .inl (.inr ⟨q, u a _ (tab_ne h t fun _ z => by cases z) h⟩)
  · exact .inr h
theorem tabO {o : HO} (e : H a = some o) (ho : ∀ ps, o ≠ .tbl ps) (t : GxR.TabG H tP) (u : Upt [tP] H H1) : H1 a = some o := u a o (tab_ne e t ho) e
theorem tabG {S : List Addr} (t : GxR.TabG H tP) (n : tP ∉ S) (u : Upt S H H1) : GxR.TabG H1 tP := let ⟨ps, e, h⟩ := t; ⟨ps, u tP _ n e, h⟩
end
theorem w_inT {K : PySem.W.Frag} {H : Hp} {Q : VK} {x : V} {p : Addr} {xs : List V} {b : Bool} (h : H p = some (.tup xs)) (fx : flatV x = true) (fs : xs.all flatV = true) (e : inV x xs = b) (q : Q (.bl b) H) : rIn K false x (.ref p) H Q := ⟨p, xs, rfl, .inr (SqT.of h), fx, fs, by subst e; exact q⟩
theorem offT {K : PySem.W.Frag} {H H1 : Hp} {a b : Addr} {xs ys : List V} (h : SqT K H a xs) (e : H b = some (.lst ys)) (u : Upt [b] H H1) : SqT K H1 a xs := by
  rcases h with (h | ⟨q, h⟩) | h
  · exact .inl (.inl (u.at1 (fun z => by rw [z, e] at h; cases h) h))
  · exact .inl (.inr ⟨q, u.at1 (fun z => by rw [z, e] at h; cases h) h⟩)
  · exact .inr h
theorem w_slT {K : PySem.W.Frag} {σ : L2.St} {H : Hp} {Q : VK} {a : Addr} {xs : List V} {n : Nat} {i : Int} (hv : σ[n]? = some (some (.ref a))) (h : SqT K H a xs) (hn : ¬ (HT.sIx xs.length 0 (some i) = 0 ∧ HT.sIx xs.length xs.length none = xs.length)) (q : ∀ p H2, New H H2 p (.tup (cutV xs (some i) none)) → Q (.ref p) H2) :
    tSl (rSlT K) (tVar n) (tPart (tC (.int i))) tNoPart σ H Q := ⟨_, hv, i, rfl, a, xs, rfl, h, hn, fun p hp => q p _ (New.of hp)⟩
theorem Upt.chgNew {H H1 H2 : Hp} {p : Addr} {o : HO} (U : Upt [] H H1) (z : H p = none) (g : Chg H1 H2 p o) : Upt [] H H2 := fun b ob nb e => g.keep.at1 (fun q => by rw [q, z] at e; cases e) (U b ob nb e)
/-! ### methods as they stand -/
def DefM (K : PySem.W.Frag) (x qual : Str) (st : Stmt) (dvs : List V) (f : Addr) (fd : FuncData) : Prop := FunD K x qual (defArgs st) (defBody st) (defScope st) dvs [] f fd
def MetAt (K : PySem.W.Frag) (C : Addr) (x qual : Str) (st : Stmt) : Prop := ∃ f fd, DefM K x qual st [] f fd ∧ Cls K C ∧ Meth K C x f
def PrpAt (K : PySem.W.Frag) (C : Addr) (x qual : Str) (st : Stmt) : Prop := ∃ p f fd, DefM K x qual st [] f fd ∧ Cls K C ∧ PropOf K C x p f
section
variable {P : Program} {w : World} {K : PySem.W.Frag} {mg : Str → Option Value} {base : Heap}
theorem mkM {C : Addr} {x qual : Str} {st : Stmt} {N ps : List Str} {k : Nat} {sp : Sp} (d : MetAt K C x qual st) (S : FnScope N ps (defScope st))
    (hb : ∀ (kV doc pm : Value) (an : Option Addr) (cdv ct : Value) (us : List Value), us.length = ps.length → bindArgs (PySem.W.fnOf x qual (defArgs st) (defBody st) (defScope st) .none kV doc pm an cdv ct) ⟨us, []⟩ = pure (ps.zip us))
    (len : ∀ vs H Q E, sp vs H Q E → vs.length = ps.length)
    (body : ∀ (f : Addr) (cdv : Value) (A : Around) (outer : List Env) (s : Shared) (H : Hp) (vs : List V) (Q : VK) (E : XK), Room k (A.deeper (envOfC qual (defScope st) s.heap.objs.size f cdv)) → sp vs H Q E →
      ∃ t, PSs (cxOf C8.CX0 P w K mg base N qual (defScope st) f cdv A outer s H E).nox (defBody st) t ∧ t { nx := fun _ H' => Q .non H', rt := Q } (start N vs) H) : C8.Met P w K mg base (k + 1) C x sp [] := by
  obtain ⟨f, fd, F, hc, hm⟩ := d
  have F : FunD K x qual (defArgs st) (defBody st) (defScope st) [] [] f fd := F
  exact ⟨f, fd, ps, [], hc, hm, F.ok S len (fun cdv A outer s H vs Q E hr hsp => let ⟨t, h, q⟩ := body f cdv A outer s H vs Q E hr hsp; ⟨t, h.nox, q⟩), F.bindsN hb, .nil⟩
theorem mkP {C : Addr} {x qual : Str} {st : Stmt} {N ps : List Str} {k : Nat} {sp : Sp} (d : PrpAt K C x qual st) (S : FnScope N ps (defScope st))
    (hb : ∀ (kV doc pm : Value) (an : Option Addr) (cdv ct : Value) (us : List Value), us.length = ps.length → bindArgs (PySem.W.fnOf x qual (defArgs st) (defBody st) (defScope st) .none kV doc pm an cdv ct) ⟨us, []⟩ = pure (ps.zip us))
    (len : ∀ vs H Q E, sp vs H Q E → vs.length = ps.length)
    (body : ∀ (f : Addr) (cdv : Value) (A : Around) (outer : List Env) (s : Shared) (H : Hp) (vs : List V) (Q : VK) (E : XK), Room k (A.deeper (envOfC qual (defScope st) s.heap.objs.size f cdv)) → sp vs H Q E →
      ∃ t, PSs (cxOf C8.CX0 P w K mg base N qual (defScope st) f cdv A outer s H E).nox (defBody st) t ∧ t { nx := fun _ H' => Q .non H', rt := Q } (start N vs) H) : Prp P w K mg base (k + 1) C x sp := by
  obtain ⟨p, f, fd, F, hc, hm⟩ := d
  have F : FunD K x qual (defArgs st) (defBody st) (defScope st) [] [] f fd := F
  exact ⟨p, f, fd, ps, hc, hm, F.ok S len (fun cdv A outer s H vs Q E hr hsp => let ⟨t, h, q⟩ := body f cdv A outer s H vs Q E hr hsp; ⟨t, h.nox, q⟩), F.bindsN hb⟩
/-- called by keywords alone -/
theorem mkK {x : Str} {st : Stmt} {N ps ks : List Str} {k : Nat} {sp : Sp} {f : Addr} {fd : FuncData} (F : FunD K x x (defArgs st) (defBody st) (defScope st) [] [] f fd) (hm : mg x = some (.ref f)) (S : FnScope N ps (defScope st)) (g : {α : Type} → List α → List α)
    (hrel : ∀ {zs : List V} {ws : List Value}, Vals zs ws → Vals (g zs) (g ws))
    (hb : ∀ (kV doc pm : Value) (an : Option Addr) (cdv ct : Value) (ws : List Value), ws.length = ks.length → bindArgs (PySem.W.fnOf x x (defArgs st) (defBody st) (defScope st) .none kV doc pm an cdv ct) ⟨[], ks.zip ws⟩ = pure (ps.zip (g ws)))
    (len : ∀ vs H Q E, sp vs H Q E → vs.length = ps.length)
    (body : ∀ (f : Addr) (cdv : Value) (A : Around) (outer : List Env) (s : Shared) (H : Hp) (vs : List V) (Q : VK) (E : XK), Room k (A.deeper (envOfC x (defScope st) s.heap.objs.size f cdv)) → sp vs H Q E →
      ∃ t, PSs (cxOf C8.CX0 P w K mg base N x (defScope st) f cdv A outer s H E).nox (defBody st) t ∧ t { nx := fun _ H' => Q .non H', rt := Q } (start N vs) H) : CalK P w K mg base (k + 1) x sp 0 ks (fun _ zs => g zs) := by
  refine ⟨f, fd, ps, fun _ ws => g ws, F.ok S len (fun cdv A outer s H vs Q E hr hsp => let ⟨t, h, q⟩ := body f cdv A outer s H vs Q E hr hsp; ⟨t, h.nox, q⟩), hm, F.kp, fun s us ws _ l1 l2 => ?_, fun _ r => hrel r⟩
  cases us with
  | nil =>
    obtain ⟨oc, od, dV, kV, doc, pm, an, cdv, ct, osl, rfl, lk, hcd, hD, hK⟩ := F.ex
    rcases hD with ⟨_, rfl⟩ | ⟨e, _⟩
    · exact .of_eq (hb kV doc pm an cdv ct ws l2)
    · exact absurd rfl e
  | cons _ _ => cases l1
/-- a def with keyword-only parameters, under its name -/
def DefKw (K : PySem.W.Frag) (mg : Str → Option Value) (x : Str) (st : Stmt) (kwd : List (Str × V)) : Prop := ∃ (f : Addr) (fd : FuncData), FunD K x x (defArgs st) (defBody st) (defScope st) [] kwd f fd ∧ mg x = some (.ref f)
/-- called by positional values and all keyword-only ones -/
theorem mkKp {x : Str} {st : Stmt} {N ps ks : List Str} {kwd : List (Str × V)} {k n : Nat} {sp : Sp} (d : DefKw K mg x st kwd) (S : FnScope N ps (defScope st))
    (hb : ∀ (kV doc pm : Value) (an : Option Addr) (cdv ct : Value) (us ws : List Value), us.length = n → ws.length = ks.length → bindArgs (PySem.W.fnOf x x (defArgs st) (defBody st) (defScope st) .none kV doc pm an cdv ct) ⟨us, ks.zip ws⟩ = pure (ps.zip (us ++ ws)))
    (len : ∀ vs H Q E, sp vs H Q E → vs.length = ps.length)
    (body : ∀ (f : Addr) (cdv : Value) (A : Around) (outer : List Env) (s : Shared) (H : Hp) (vs : List V) (Q : VK) (E : XK), Room k (A.deeper (envOfC x (defScope st) s.heap.objs.size f cdv)) → sp vs H Q E →
      ∃ t, PSs (cxOf C8.CX0 P w K mg base N x (defScope st) f cdv A outer s H E).nox (defBody st) t ∧ t { nx := fun _ H' => Q .non H', rt := Q } (start N vs) H) : CalK P w K mg base (k + 1) x sp n ks (fun vs zs => vs ++ zs) := by
  obtain ⟨f, fd, F, hm⟩ := d
  refine ⟨f, fd, ps, fun us ws => us ++ ws, F.ok S len (fun cdv A outer s H vs Q E hr hsp => let ⟨t, h, q⟩ := body f cdv A outer s H vs Q E hr hsp; ⟨t, h.nox, q⟩), hm, F.kp, fun s us ws _ l1 l2 => ?_, fun r1 r2 => r1.append r2⟩
  obtain ⟨oc, od, dV, kV, doc, pm, an, cdv, ct, osl, rfl, lk, hcd, hD, hK⟩ := F.ex
  rcases hD with ⟨_, rfl⟩ | ⟨e, _⟩
  · exact .of_eq (hb kV doc pm an cdv ct us ws l1 l2)
  · exact absurd rfl e
/-- __init__ with defaults -/
theorem mkI {C f : Addr} {fd : FuncData} {x qual : Str} {st : Stmt} {N ps : List Str} {k : Nat} {sp : Sp} {dvs dvs' : List V} (F : DefM K "__init__" qual st dvs f fd) (M : Mk K C f) (hm : mg x = some (.ref C)) (S : FnScope N ps (defScope st))
    (hb : ∃ ds, Vals dvs' ds ∧ Binds K fd ps ds) (len : ∀ vs H Q E, sp vs H Q E → vs.length = ps.length)
    (body : ∀ (f : Addr) (cdv : Value) (A : Around) (outer : List Env) (s : Shared) (H : Hp) (vs : List V) (Q : VK) (E : XK), Room k (A.deeper (envOfC qual (defScope st) s.heap.objs.size f cdv)) → sp vs H Q E →
      ∃ t, PSs (cxOf C8.CX0 P w K mg base N qual (defScope st) f cdv A outer s H E).nox (defBody st) t ∧ t { nx := fun _ H' => Q .non H', rt := Q } (start N vs) H) : C8.Mak P w K mg base (k + 1) x C sp dvs' := by
  obtain ⟨ds, r, b⟩ := hb
  have F : FunD K "__init__" qual (defArgs st) (defBody st) (defScope st) dvs [] f fd := F
  exact ⟨f, fd, ps, ds, M, F.ok S len (fun cdv A outer s H vs Q E hr hsp => let ⟨t, h, q⟩ := body f cdv A outer s H vs Q E hr hsp; ⟨t, h.nox, q⟩), hm, b, r⟩
end
end Wk
set_option Elab.async false
set_option linter.all false
set_option maxRecDepth 100000
set_option maxHeartbeats 4000000
/-! Wk: a ledger of the heap's cells, and steps that keep it. -/
namespace Wk
open PySem PySem.Spec PyProof.Rows L2
/-- an address, and what is known of the object that stands there -/
abbrev Cell := Addr × (HO → Prop)
/-- the cells of L stand in H, each at an address of its own -/
structure Hd (H : Hp) (L : List Cell) : Prop where
  nd : (L.map Prod.fst).Nodup
  at_ : ∀ c ∈ L, ∃ o, H c.1 = some o ∧ c.2 o
def lstC (a : Addr) (xs : List V) : Cell := (a, fun o => o = .lst xs)
def tupC (a : Addr) (xs : List V) : Cell := (a, fun o => o = .tup xs)
def frzC (a : Addr) (xs : List V) : Cell := (a, fun o => ∃ q, o = .frz q (.lst xs))
def dctC (a : Addr) (kvs : List (Key × V)) : Cell := (a, fun o => o = .dK kvs)
def insC (a C : Addr) (fs : List (Str × V)) : Cell := (a, fun o => ∃ dx, o = .ins C dx fs)
def tblC (a : Addr) : Cell := (a, fun o => ∃ ps, o = .tbl ps ∧ TriplesOk ps.toList)
/-- L is c and M, in some order -/
inductive Pk : List Cell → Cell → List Cell → Prop
  | here {c : Cell} {L : List Cell} : Pk (c :: L) c L
  | there {x c : Cell} {L M : List Cell} : Pk L c M → Pk (x :: L) c (x :: M)
  | app {c : Cell} {Z L M : List Cell} : Pk L c M → Pk (Z ++ L) c (Z ++ M)
/-- L is the block Z and M -/
inductive PkB : List Cell → List Cell → List Cell → Prop
  | here {Z L : List Cell} : PkB (Z ++ L) Z L
  | there {x : Cell} {Z L M : List Cell} : PkB L Z M → PkB (x :: L) Z (x :: M)
  | app {Y Z L M : List Cell} : PkB L Z M → PkB (Y ++ L) Z (Y ++ M)
/-- L is A and R -/
inductive Spl : List Cell → List Cell → List Cell → Prop
  | nil {L : List Cell} : Spl L [] L
  | cons {c : Cell} {L M A R : List Cell} : Pk L c M → Spl M A R → Spl L (c :: A) R
  | blk {L M Z A R : List Cell} : PkB L Z M → Spl M A R → Spl L (Z ++ A) R
/-- A is some of L -/
inductive Sb : List Cell → List Cell → Prop
  | refl {L : List Cell} : Sb L L
  | nil {L : List Cell} : Sb [] L
  | cons {c : Cell} {L M A : List Cell} : Pk L c M → Sb A M → Sb (c :: A) L
  | drop {x : Cell} {A L : List Cell} : Sb A L → Sb A (x :: L)
  | blk {L M Z A : List Cell} : PkB L Z M → Sb A M → Sb (Z ++ A) L
  | left {Z L : List Cell} : Sb Z (Z ++ L)
  | right {A Z L : List Cell} : Sb A L → Sb A (Z ++ L)
theorem Pk.perm {L M : List Cell} {c : Cell} (h : Pk L c M) : L.Perm (c :: M) := by
  induction h with
  | here => exact .refl _
  | there _ ih => exact (List.Perm.cons _ ih).trans (List.Perm.swap _ _ _)
  | app _ ih => exact (List.Perm.append_left _ ih).trans List.perm_middle
theorem PkB.perm {L Z M : List Cell} (h : PkB L Z M) : L.Perm (Z ++ M) := by
  induction h with
  | here => exact .refl _
  | there _ ih => exact (List.Perm.cons _ ih).trans List.perm_middle.symm
  | @app Y Z L M _ ih => exact (List.Perm.append_left _ ih).trans (by rw [← List.append_assoc, ← List.append_assoc]; exact List.Perm.append_right _ List.perm_append_comm)
theorem Spl.perm {L A R : List Cell} (h : Spl L A R) : L.Perm (A ++ R) := by
  induction h with
  | nil => exact .refl _
  | cons p _ ih => exact p.perm.trans (List.Perm.cons _ ih)
  | blk p _ ih => exact p.perm.trans (by rw [List.append_assoc]; exact List.Perm.append_left _ ih)
theorem Hd.perm {H : Hp} {L M : List Cell} (h : Hd H L) (p : L.Perm M) : Hd H M := ⟨(p.map Prod.fst).nodup_iff.mp h.nd, fun c hc => h.at_ c (p.mem_iff.mpr hc)⟩
theorem Hd.tail {H : Hp} {c : Cell} {L : List Cell} (h : Hd H (c :: L)) : Hd H L := ⟨(List.nodup_cons.mp h.nd).2, fun d hd => h.at_ d (List.mem_cons_of_mem _ hd)⟩
theorem Hd.app {H : Hp} {A R : List Cell} (h : Hd H (A ++ R)) : Hd H R := by
  induction A with
  | nil => exact h
  | cons c A ih => exact ih h.tail
theorem Hd.left {H : Hp} {A R : List Cell} (h : Hd H (A ++ R)) : Hd H A := (h.perm List.perm_append_comm).app
theorem Hd.pk {H : Hp} {L M : List Cell} {c : Cell} (h : Hd H L) (p : Pk L c M) : Hd H (c :: M) := h.perm p.perm
theorem Hd.spl {H : Hp} {L A R : List Cell} (h : Hd H L) (p : Spl L A R) : Hd H (A ++ R) := h.perm p.perm
theorem Hd.sb {H : Hp} {L A : List Cell} (h : Hd H L) (s : Sb A L) : Hd H A := by
  have key : ∀ {A L : List Cell}, Sb A L → ∃ R, L.Perm (A ++ R) := by
    intro A L s
    induction s with
    | refl => exact ⟨[], by simp⟩
    | nil => exact ⟨_, List.Perm.refl _⟩
    | cons p _ ih => obtain ⟨R, q⟩ := ih; exact ⟨R, p.perm.trans (List.Perm.cons _ q)⟩
    | @drop x A L _ ih => obtain ⟨R, q⟩ := ih; exact ⟨x :: R, (List.Perm.cons x q).trans List.perm_middle.symm⟩
    | blk p _ ih => obtain ⟨R, q⟩ := ih; exact ⟨R, p.perm.trans (by rw [List.append_assoc]; exact List.Perm.append_left _ q)⟩
    | left => exact ⟨_, List.Perm.refl _⟩
    | @right A Z L _ ih => obtain ⟨R, q⟩ := ih; exact ⟨Z ++ R, (List.Perm.append_left Z q).trans (by rw [← List.append_assoc, ← List.append_assoc]; exact List.Perm.append_right _ List.perm_append_comm)⟩
  obtain ⟨R, q⟩ := key s
  exact (h.perm q).left
theorem Hd.get {H : Hp} {L : List Cell} {c : Cell} (h : Hd H L) (m : c ∈ L) : ∃ o, H c.1 = some o ∧ c.2 o := h.at_ c m
section
variable {H H2 : Hp} {L M : List Cell} {K : PySem.W.Frag} {a b C : Addr} {xs ys : List V} {fs : List (Str × V)} {kvs : List (Key × V)} {o : HO}
theorem Hd.lst (h : Hd H L) (m : lstC a xs ∈ L) : H a = some (.lst xs) := by obtain ⟨o, e, q⟩ := h.at_ _ m; cases (show o = .lst xs from q); exact e
theorem Hd.tup (h : Hd H L) (m : tupC a xs ∈ L) : H a = some (.tup xs) := by obtain ⟨o, e, q⟩ := h.at_ _ m; cases (show o = .tup xs from q); exact e
theorem Hd.dct (h : Hd H L) (m : dctC a kvs ∈ L) : H a = some (.dK kvs) := by obtain ⟨o, e, q⟩ := h.at_ _ m; cases (show o = .dK kvs from q); exact e
theorem Hd.ins (h : Hd H L) (m : insC a C fs ∈ L) : ∃ dx, H a = some (.ins C dx fs) := by obtain ⟨o, e, dx, q⟩ := h.at_ _ m; subst q; exact ⟨dx, e⟩
theorem Hd.sqL (h : Hd H L) (m : lstC a xs ∈ L) : SqL K H a xs := SqL.of (h.lst m)
theorem Hd.sqF (h : Hd H L) (m : frzC a xs ∈ L) : SqL K H a xs := by obtain ⟨o, e, q, z⟩ := h.at_ _ m; subst z; exact .inl (.inr ⟨q, e⟩)
theorem Hd.sqT (h : Hd H L) (m : tupC a xs ∈ L) : SqT K H a xs := SqT.of (h.tup m)
theorem Hd.tbl (h : Hd H L) (m : tblC a ∈ L) : GxR.TabG H a := by obtain ⟨o, e, ps, q, t⟩ := h.at_ _ m; subst q; exact ⟨ps, e, t⟩
theorem Hd.ne {c d : Cell} (h : Hd H (c :: L)) (m : d ∈ L) : d.1 ≠ c.1 := fun e => (List.nodup_cons.mp h.nd).1 (e ▸ List.mem_map_of_mem m)
theorem Hd.new {P : HO → Prop} {p : Addr} (h : Hd H L) (n : New H H2 p o) (q : P o) : Hd H2 ((p, P) :: L) := by
  refine ⟨List.nodup_cons.mpr ⟨fun z => ?_, h.nd⟩, fun c hc => ?_⟩
  · obtain ⟨c, hc, e⟩ := List.mem_map.mp z
    obtain ⟨u, hu, _⟩ := h.at_ c hc
    rw [e, n.no] at hu
    cases hu
  · rcases List.mem_cons.mp hc with rfl | hc
    · exact ⟨o, n.at_, q⟩
    · obtain ⟨u, hu, z⟩ := h.at_ c hc
      exact ⟨u, n.keep.at0 hu, z⟩
theorem Hd.newL {p : Addr} (h : Hd H L) (n : New H H2 p (.lst xs)) : Hd H2 (lstC p xs :: L) := h.new n rfl
theorem Hd.newT {p : Addr} (h : Hd H L) (n : New H H2 p (.tup xs)) : Hd H2 (tupC p xs :: L) := h.new n rfl
theorem Hd.newD {p : Addr} (h : Hd H L) (n : New H H2 p (.dK kvs)) : Hd H2 (dctC p kvs :: L) := h.new n rfl
/-- what a change of the cells S leaves of L -/
theorem Hd.upt {S : List Addr} (h : Hd H L) (u : Upt S H H2) (hs : ∀ c ∈ L, c.1 ∉ S) : Hd H2 L := ⟨h.nd, fun c hc => let ⟨o, e, q⟩ := h.at_ c hc; ⟨o, u _ _ (hs c hc) e, q⟩⟩
theorem Hd.upt0 (h : Hd H L) (u : Upt [] H H2) : Hd H2 L := h.upt u fun _ _ => by simp
theorem Hd.chg {c c' : Cell} (h : Hd H L) (p : Pk L c M) (g : Chg H H2 c.1 o) (e : c'.1 = c.1) (q : c'.2 o) : Hd H2 (c' :: M) := by
  have h1 := h.pk p
  have nd := List.nodup_cons.mp h1.nd
  refine ⟨List.nodup_cons.mpr ⟨by rw [e]; exact nd.1, nd.2⟩, fun d hd => ?_⟩
  rcases List.mem_cons.mp hd with rfl | hd
  · exact ⟨o, by rw [e]; exact g.at_, q⟩
  · obtain ⟨u, hu, z⟩ := h1.at_ d (List.mem_cons_of_mem _ hd)
    exact ⟨u, g.keep.at1 (h1.ne hd) hu, z⟩
theorem Hd.chgL (h : Hd H L) (p : Pk L (lstC a xs) M) (g : Chg H H2 a (.lst ys)) : Hd H2 (lstC a ys :: M) := h.chg (c := lstC a xs) p g rfl rfl
theorem Hd.chgD {kvs' : List (Key × V)} (h : Hd H L) (p : Pk L (dctC a kvs) M) (g : Chg H H2 a (.dK kvs')) : Hd H2 (dctC a kvs' :: M) := h.chg (c := dctC a kvs) p g rfl rfl
theorem Hd.chgI {dx : Addr} {fs' : List (Str × V)} (h : Hd H L) (p : Pk L (insC a C fs) M) (g : Chg H H2 a (.ins C dx fs')) : Hd H2 (insC a C fs' :: M) := h.chg (c := insC a C fs) p g rfl ⟨dx, rfl⟩
/-- cells that change by a contract over addresses -/
theorem Hd.put {S : List Addr} {A B R : List Cell} (h : Hd H (A ++ R)) (u : Upt S H H2) (hs : ∀ a ∈ S, a ∈ A.map Prod.fst) (hB : Hd H2 B) (hk : ∀ c ∈ B, c.1 ∈ A.map Prod.fst ∨ H c.1 = none) : Hd H2 (B ++ R) := by
  have hd : ∀ c ∈ R, c.1 ∉ A.map Prod.fst := fun c hc z => by
    have nd := h.nd
    rw [List.map_append] at nd
    exact (List.nodup_append.mp nd).2.2 _ z _ (List.mem_map_of_mem hc) rfl
  have hR : Hd H2 R := h.app.upt u fun c hc z => hd c hc (hs _ z)
  refine ⟨?_, fun c hc => (List.mem_append.mp hc).elim (hB.at_ c) (hR.at_ c)⟩
  rw [List.map_append]
  refine List.nodup_append.mpr ⟨hB.nd, hR.nd, fun x hx y hy e => ?_⟩
  subst e
  obtain ⟨c, hc, rfl⟩ := List.mem_map.mp hx
  obtain ⟨d, hdm, e⟩ := List.mem_map.mp hy
  rcases hk c hc with z | z
  · exact hd d hdm (e ▸ z)
  · obtain ⟨o, ho, _⟩ := h.app.at_ d hdm
    rw [e, z] at ho
    cases ho
theorem Hd.one {c : Cell} {o : HO} (e : H c.1 = some o) (q : c.2 o) : Hd H [c] := ⟨by simp, fun d hd => by rw [List.mem_singleton.mp hd]; exact ⟨o, e, q⟩⟩
theorem Hd.two {c d : Cell} {o u : HO} (e : H c.1 = some o) (q : c.2 o) (e' : H d.1 = some u) (q' : d.2 u) (n : c.1 ≠ d.1) : Hd H [c, d] := by
  refine ⟨by simp [n], fun x hx => ?_⟩
  rcases List.mem_cons.mp hx with rfl | hx
  · exact ⟨o, e, q⟩
  · rw [List.mem_singleton.mp hx]; exact ⟨u, e', q'⟩
/-- data -/
theorem Dn.lt {n : Nat} {ds : List PyData} (h : Hd H L) (m : lstC a xs ∈ L) (hl : xs.length ≤ 100000) (p : Paired (Dn K [] H n) xs ds) : Dn K [] H (n + 1) (.ref a) (.list ds) := Dn.lst (h.sqL m) (by simp) hl p
theorem Dn.tp {n : Nat} {ds : List PyData} (h : Hd H L) (m : tupC a xs ∈ L) (hl : xs.length ≤ 100000) (p : Paired (Dn K [] H n) xs ds) : Dn K [] H (n + 1) (.ref a) (.tuple ds) := Dn.tup (h.sqT m) (by simp) hl p
end
/-! ### steps -/
section
variable {K : PySem.W.Frag} {σ : L2.St} {H : Hp} {Q : VK} {L M : List Cell} {P : Hp → Prop} {D : Ends} {a b p C : Addr} {xs ys : List V} {i : Int} {n : Nat} {v x y : V} {f : Str} {fs : List (Str × V)} {kvs : List (Key × V)} {E : XK} {sp : Sp} {dvs : List V}
theorem g_lst (hh : Hd H L) (hs : n ≤ sizeLine) (q : ∀ p H2, Hd H2 (lstC p xs :: L) → Q (.ref p) H2) : KNew n H (.lst xs) Q := w_new hs fun p H2 n2 => q p H2 (hh.newL n2)
theorem g_tup (hh : Hd H L) (hs : n ≤ sizeLine) (q : ∀ p H2, Hd H2 (tupC p xs :: L) → Q (.ref p) H2) : KNew n H (.tup xs) Q := w_new hs fun p H2 n2 => q p H2 (hh.newT n2)
theorem g_dict (hh : Hd H L) (q : ∀ p H2, Hd H2 (dctC p [] :: L) → Q (.ref p) H2) : tDNewK σ H Q := w_dnew fun p H2 n2 => q p H2 (hh.newD n2)
theorem g_set (hh : Hd H L) (k : Pk L (lstC p xs) M) (hn : ixN xs.length i = some n) (q : ∀ H2, Hd H2 (lstC p (xs.set n v) :: M) → P H2) : rSetL (.ref p) (.int i) v H P := w_setI ((hh.pk k).lst (List.mem_cons_self ..)) hn fun H2 g => q H2 (hh.chgL k g)
theorem g_append (hh : Hd H L) (k : Pk L (lstC p xs) M) (hz : xs.length < sizeLine) (q : ∀ H2, Hd H2 (lstC p (xs ++ [y]) :: M) → Q .non H2) : KBM K "list" rAppend (tCons (tC y) tNil) σ (.ref p) H Q := by
  have e := (hh.pk k).lst (List.mem_cons_self ..)
  exact w_kbm (ty_list (SqL.of e)) (w_append e hz fun H2 g => q H2 (hh.chgL k g))
theorem g_app (hh : Hd H L) (k : Pk L (lstC p xs) M) (hz : xs.length < sizeLine) (q : ∀ H2, Hd H2 (lstC p (xs ++ [y]) :: M) → Q .non H2) : rAppend (.ref p) [y] H Q := w_append ((hh.pk k).lst (List.mem_cons_self ..)) hz fun H2 g => q H2 (hh.chgL k g)
theorem g_kbm {g : V → List V → Hp → VK → Prop} {t : TA} (hh : Hd H L) (m : lstC p xs ∈ L) (h : t σ H fun zs H2 => g (.ref p) zs H2 Q) : KBM K "list" g t σ (.ref p) H Q := w_kbm (ty_list (hh.sqL m)) h
theorem g_kbm0 {g : V → List V → Hp → VK → Prop} (hh : Hd H L) (m : lstC p xs ∈ L) (h : g (.ref p) [] H Q) : KBM0 K "list" g (.ref p) H Q := w_kbm0 (ty_list (hh.sqL m)) h
theorem g_popAt (hh : Hd H L) (k : Pk L (lstC p xs) M) (hn : n < xs.length) (hb : n < 2 ^ 62) (hv : xs[n]? = some y) (q : ∀ H2, Hd H2 (lstC p (xs.eraseIdx n) :: M) → Q y H2) : rPopAt (.ref p) [.int (n : Int)] H Q := w_popAt ((hh.pk k).lst (List.mem_cons_self ..)) hn hb hv fun H2 g => q H2 (hh.chgL k g)
theorem g_listL (hh : Hd H L) (h : SqL K H p ys) (q : ∀ l H2, Hd H2 (lstC l ys :: L) → Q (.ref l) H2) : CB (rListOf K) [.ref p] H Q := c_listL h fun l H2 n2 => q l H2 (hh.newL n2)
theorem g_listT (hh : Hd H L) (h : SqT K H p ys) (q : ∀ l H2, Hd H2 (lstC l ys :: L) → Q (.ref l) H2) : CB (rListOf K) [.ref p] H Q := c_listT h fun l H2 n2 => q l H2 (hh.newL n2)
theorem g_tupL (hh : Hd H L) (h : SqL K H p ys) (q : ∀ l H2, Hd H2 (tupC l ys :: L) → Q (.ref l) H2) : CB (rTupOf K) [.ref p] H Q := c_tupL h fun l H2 n2 => q l H2 (hh.newT n2)
theorem g_fld (hh : Hd H L) (m : insC a C fs ∈ L) (c : Cls K C) (n : NoAttr K C f) (l : fs.lookup f = some v) (q : Q v H) : KFld K f (.ref a) H Q := let ⟨_, e⟩ := hh.ins m; w_kfld e c n l q
theorem g_sfld (hh : Hd H L) (k : Pk L (insC a C fs) M) (c : Cls K C) (n : NoAttr K C f) (hl : fs.length < 1000) (q : ∀ H2, Hd H2 (insC a C (putF f y fs) :: M) → D.nx σ H2) : KSFld K f D σ y (.ref a) H :=
  let ⟨_, e⟩ := (hh.pk k).ins (List.mem_cons_self ..)
  w_ksfld e c n hl fun H2 g => q H2 (hh.chgI k g)
theorem g_meth {m : Str} {t : TA} (hh : Hd H L) (k : insC a C fs ∈ L) (l : fs.lookup m = none) (h : t σ H fun vs H2 => sp (.ref a :: (vs ++ dvs)) H2 Q E) : KMeth C m sp dvs E t σ Q (.ref a) H := let ⟨_, e⟩ := hh.ins k; w_kmeth e l h
theorem g_prop (hh : Hd H L) (k : insC a C fs ∈ L) (h : sp [.ref a] H Q E) : KProp C sp E Q (.ref a) H := let ⟨_, e⟩ := hh.ins k; w_kprop e h
theorem g_make {vs : List V} (hh : Hd H L) (q : ∀ x H2, Hd H2 (insC x C [] :: L) → sp (.ref x :: (vs ++ dvs)) H2 (fun v H2 => v = .non ∧ Q (.ref x) H2) E) : KMake C sp dvs E Q vs H := fun x dx hx hdx ne => by
  have u : Upt [] H (upd (upd H dx (.own x)) x (.ins C dx [])) := fun b o _ e => by rw [upd_ne (ne_of_none e hx), upd_ne (ne_of_none e hdx)]; exact e
  refine q x _ ((hh.new (H2 := upd (upd H dx (.own x)) x (.ins C dx [])) (p := x) (o := .ins C dx []) (P := fun o => ∃ dx, o = .ins C dx []) ⟨hx, upd_same, u⟩ ⟨dx, rfl⟩))
theorem g_cat (hh : Hd H L) (h1 : lstC a xs ∈ L) (h2 : lstC b ys ∈ L) (hz : xs.length + ys.length ≤ sizeLine) (q : ∀ p H2, Hd H2 (lstC p (xs ++ ys) :: L) → Q (.ref p) H2) : rCat (.ref a) (.ref b) H Q := w_cat (hh.lst h1) (hh.lst h2) hz fun p H2 n2 => q p H2 (hh.newL n2)
theorem g_rep {k : Int} (hh : Hd H L) (h1 : lstC a xs ∈ L) (h2 : -(2 ^ 63) ≤ k) (h3 : k < 2 ^ 63) (hz : xs.length * k.toNat ≤ sizeLine) (q : ∀ p H2, Hd H2 (lstC p (List.replicate k.toNat xs).flatten :: L) → Q (.ref p) H2) : rRep (.ref a) (.int k) H Q := w_rep (hh.lst h1) h2 h3 hz fun p H2 n2 => q p H2 (hh.newL n2)
theorem g_ixI {ns : List Int} {k : Nat} (hh : Hd H L) (m : lstC p (ns.map V.int) ∈ L) (hk : k < ns.length) (q : ∀ z, ns[k]? = some z → Q (.int z) H) : rIxL K (.ref p) (.int k) H Q :=
  w_ixL (hh.sqL m) (atI_nat (by rw [List.getElem?_map, List.getElem?_eq_getElem hk]; rfl)) (q _ (List.getElem?_eq_getElem hk))
theorem g_ixIT {ns : List Int} {k : Nat} (hh : Hd H L) (m : tupC p (ns.map V.int) ∈ L) (hk : k < ns.length) (q : ∀ z, ns[k]? = some z → Q (.int z) H) : rIxT K (.ref p) (.int k) H Q :=
  w_ixT (hh.sqT m) (atI_nat (by rw [List.getElem?_map, List.getElem?_eq_getElem hk]; rfl)) (q _ (List.getElem?_eq_getElem hk))
theorem g_setI {ns : List Int} {k : Nat} {z : Int} (hh : Hd H L) (m : Pk L (lstC p (ns.map V.int)) M) (hk : k < ns.length) (q : ∀ H2, Hd H2 (lstC p ((ns.set k z).map V.int) :: M) → P H2) : rSetL (.ref p) (.int k) (.int z) H P :=
  g_set hh m (n := k) (by rw [List.length_map]; exact Evl.ixN_nat hk) fun H2 h2 => q H2 (by rw [List.map_set]; exact h2)
theorem g_inT {r : Bool} (hh : Hd H L) (h : tupC p xs ∈ L) (fx : flatV x = true) (fs : xs.all flatV = true) (e : inV x xs = r) (q : Q (.bl r) H) : rIn K false x (.ref p) H Q := w_inT (hh.tup h) fx fs e q
theorem g_kapp (hh : Hd H L) (k : Pk L (lstC p xs) M) (hz : xs.length < sizeLine) (q : ∀ H2, Hd H2 (lstC p (xs ++ [y]) :: M) → P H2) : KApp p P y H := w_kapp ((hh.pk k).lst (List.mem_cons_self ..)) hz fun H2 g => q H2 (hh.chgL k g)
theorem g_isiT2 {t A B : String} {q1 q2 r : Bool} {tp : Addr} (hh : Hd H L) (ht : tupC tp [.ty A, .ty B] ∈ L) (ty : TyX K H x (.type t)) (ha : kitB t A = some q1) (hb : kitB t B = some q2) (hr : (q1 || q2) = r) (q : Q (.bl r) H) : CB (rIsiT K) [x, .ref tp] H Q := c_isiT2 (hh.tup ht) ty ha hb hr q
end
section
variable {K : PySem.W.Frag} {σ : L2.St} {H : Hp} {Q : VK} {L : List Cell} {te : TE} {n m : Nat} {j : Int} {a : Addr} {xs : List V}
theorem g_lcR (hh : Hd H L) (hj : j = (m : Int)) (hb : m ≤ 1000000) (Pv : Nat → Addr → Hp → Prop) (h0 : ∀ D H1, Hd H1 (lstC D [] :: L) → Pv 0 D H1)
    (hs : ∀ (i : Nat) D H, i < m → Pv i D H → te ((σ.set n none).set n (some (.int (i : Int)))) H (KApp D (Pv (i + 1) D)))
    (hd : ∀ D H, Pv m D H → Q (.ref D) H) : KLcR (gName n) tYes te [n] σ Q [.int j] H := lc_R hj hb Pv (fun D H1 nn => h0 D H1 (hh.newL nn)) hs hd
theorem g_lcL (hh : Hd H L) (h : SqL K H a xs) (Pv : Nat → Addr → Hp → Prop) (h0 : ∀ D H1, Hd H1 (lstC D [] :: L) → Pv 0 D H1) (hl : ∀ i D H, i ≤ xs.length → Pv i D H → SqL K H a xs)
    (hs : ∀ (i : Nat) x D H, xs[i]? = some x → Pv i D H → te ((σ.set n none).set n (some x)) H (KApp D (Pv (i + 1) D)))
    (hd : ∀ D H, Pv xs.length D H → Q (.ref D) H) : KLcL K (gName n) tYes te [n] σ Q (.ref a) H := lc_L h Pv (fun D H1 nn => h0 D H1 (hh.newL nn)) hl hs hd
end
/-! ### data as blocks of cells -/
/-- the block Z holds the datum d at v -/
def Zc (K : PySem.W.Frag) (Z : List Cell) (n : Nat) (v : V) (d : PyData) : Prop := ∀ H, Hd H Z → Dn K [] H n v d
theorem same_nodup (A : List Addr) : ∃ B : List Addr, B.Nodup ∧ ∀ a, a ∈ A ↔ a ∈ B := by
  induction A with
  | nil => exact ⟨[], List.nodup_nil, fun a => Iff.rfl⟩
  | cons x A ih =>
    obtain ⟨B, h1, h2⟩ := ih
    by_cases h : x ∈ B
    · exact ⟨B, h1, fun a => by rw [List.mem_cons, h2]; exact ⟨fun z => z.elim (fun e => e ▸ h) id, .inr⟩⟩
    · exact ⟨x :: B, List.nodup_cons.mpr ⟨h, h1⟩, fun a => by rw [List.mem_cons, List.mem_cons, h2]⟩
section
variable {K : PySem.W.Frag} {S : List Addr} {H H' : Hp} {a : Addr} {xs : List V}
/-- H' has what H has at A -/
def Agr (A : List Addr) (H H' : Hp) : Prop := ∀ b ∈ A, ∀ o, H b = some o → H' b = some o
theorem SqL.addr (h : SqL K H a xs) : ∃ A : List Addr, (∀ b ∈ A, b = a ∧ ∃ o, H b = some o) ∧ ∀ H', Agr A H H' → SqL K H' a xs := by
  rcases h with (h | ⟨q, h⟩) | h
  · exact ⟨[a], fun b hb => by rw [List.mem_singleton.mp hb]; exact ⟨rfl, _, h⟩, fun H' e => .inl (.inl (e a (List.mem_singleton.mpr rfl) _ h))⟩
  · exact ⟨[a], fun b hb => by rw [List.mem_singleton.mp hb]; exact ⟨rfl, _, h⟩, fun H' e => .inl (.inr ⟨q, e a (List.mem_singleton.mpr rfl) _ h⟩)⟩
  · exact ⟨[], fun b hb => absurd hb (List.not_mem_nil), fun H' _ => .inr h⟩
theorem SqT.addr (h : SqT K H a xs) : ∃ A : List Addr, (∀ b ∈ A, b = a ∧ ∃ o, H b = some o) ∧ ∀ H', Agr A H H' → SqT K H' a xs := by
  rcases h with (h | ⟨q, h⟩) | h
  · exact ⟨[a], fun b hb => by rw [List.mem_singleton.mp hb]; exact ⟨rfl, _, h⟩, fun H' e => .inl (.inl (e a (List.mem_singleton.mpr rfl) _ h))⟩
  · exact ⟨[a], fun b hb => by rw [List.mem_singleton.mp hb]; exact ⟨rfl, _, h⟩, fun H' e => .inl (.inr ⟨q, e a (List.mem_singleton.mpr rfl) _ h⟩)⟩
  · exact ⟨[], fun b hb => absurd hb (List.not_mem_nil), fun H' _ => .inr h⟩
theorem paired_addr {n : Nat} (F : ∀ v d, Dn K S H n v d → ∃ A : List Addr, (∀ b ∈ A, b ∉ S ∧ ∃ o, H b = some o) ∧ ∀ H', Agr A H H' → Dn K [] H' n v d) : ∀ {xs : List V} {ds : List PyData}, Paired (Dn K S H n) xs ds →
    ∃ A : List Addr, (∀ b ∈ A, b ∉ S ∧ ∃ o, H b = some o) ∧ ∀ H', Agr A H H' → Paired (Dn K [] H' n) xs ds
  | _, _, .nil => ⟨[], fun b hb => absurd hb (List.not_mem_nil), fun _ _ => .nil⟩
  | _, _, .cons r t => by
    obtain ⟨A, h1, h2⟩ := F _ _ r
    obtain ⟨B, h3, h4⟩ := paired_addr F t
    refine ⟨A ++ B, fun b hb => (List.mem_append.mp hb).elim (h1 b) (h3 b), fun H' e => .cons (h2 H' fun b hb => e b (List.mem_append_left _ hb)) (h4 H' fun b hb => e b (List.mem_append_right _ hb))⟩
theorem Dn.addr : ∀ {n : Nat} {v : V} {d : PyData}, Dn K S H n v d → ∃ A : List Addr, (∀ b ∈ A, b ∉ S ∧ ∃ o, H b = some o) ∧ ∀ H', Agr A H H' → Dn K [] H' n v d
  | 0, _, _, h => ⟨[], fun b hb => absurd hb (List.not_mem_nil), fun _ _ => h⟩
  | n + 1, v, d, h => by
    rcases h with h | ⟨a, xs, ds, e1, e2, ha, hq, hl, p⟩ | ⟨a, xs, ds, e1, e2, ha, hq, hl, p⟩
    · exact ⟨[], fun b hb => absurd hb (List.not_mem_nil), fun _ _ => .inl h⟩
    · obtain ⟨A, h1, h2⟩ := SqL.addr hq
      obtain ⟨B, h3, h4⟩ := paired_addr (fun v d => Dn.addr) p
      exact ⟨A ++ B, fun b hb => (List.mem_append.mp hb).elim (fun z => ⟨(h1 b z).1 ▸ ha, (h1 b z).2⟩) (h3 b), fun H' e => .inr (.inl ⟨a, xs, ds, e1, e2, by simp, h2 H' fun b hb => e b (List.mem_append_left _ hb), hl, h4 H' fun b hb => e b (List.mem_append_right _ hb)⟩)⟩
    · obtain ⟨A, h1, h2⟩ := SqT.addr hq
      obtain ⟨B, h3, h4⟩ := paired_addr (fun v d => Dn.addr) p
      exact ⟨A ++ B, fun b hb => (List.mem_append.mp hb).elim (fun z => ⟨(h1 b z).1 ▸ ha, (h1 b z).2⟩) (h3 b), fun H' e => .inr (.inr ⟨a, xs, ds, e1, e2, by simp, h2 H' fun b hb => e b (List.mem_append_left _ hb), hl, h4 H' fun b hb => e b (List.mem_append_right _ hb)⟩)⟩
theorem Dn.chunk {n : Nat} {v : V} {d : PyData} (h : Dn K S H n v d) : ∃ Z : List Cell, Hd H Z ∧ (∀ c ∈ Z, c.1 ∉ S) ∧ Zc K Z n v d := by
  obtain ⟨A, h1, h2⟩ := h.addr
  obtain ⟨B, h3, h4⟩ := same_nodup A
  refine ⟨B.map fun a => (a, fun o => H a = some o), ⟨?_, fun c hc => ?_⟩, fun c hc => ?_, fun H' hh => h2 H' fun b hb o ho => ?_⟩
  · rw [List.map_map]
    exact (List.map_id B).symm ▸ h3
  · obtain ⟨a, ha, rfl⟩ := List.mem_map.mp hc
    obtain ⟨o, ho⟩ := (h1 a ((h4 a).mpr ha)).2
    exact ⟨o, ho, ho⟩
  · obtain ⟨a, ha, rfl⟩ := List.mem_map.mp hc
    exact (h1 a ((h4 a).mpr ha)).1
  · obtain ⟨u, e1, e2⟩ := hh.at_ _ (List.mem_map.mpr ⟨b, (h4 b).mp hb, rfl⟩)
    have e3 : H b = some u := e2
    rw [ho] at e3
    cases e3
    exact e1
theorem Hd.join {Z L : List Cell} (h1 : Hd H Z) (h2 : Hd H L) (d : ∀ c ∈ Z, c.1 ∉ L.map Prod.fst) : Hd H (Z ++ L) := by
  refine ⟨?_, fun c hc => (List.mem_append.mp hc).elim (h1.at_ c) (h2.at_ c)⟩
  rw [List.map_append]
  refine List.nodup_append.mpr ⟨h1.nd, h2.nd, fun x hx y hy e => ?_⟩
  subst e
  obtain ⟨c, hc, rfl⟩ := List.mem_map.mp hx
  exact d c hc hy
theorem Zc.up {Z : List Cell} {n m : Nat} {v : V} {d : PyData} (z : Zc K Z n v d) (h : n ≤ m) : Zc K Z m v d := fun H hh => Dn.up h (z H hh)
theorem Zc.sb {Z Y : List Cell} {n : Nat} {v : V} {d : PyData} (z : Zc K Z n v d) (s : Sb Z Y) : Zc K Y n v d := fun H hh => z H (hh.sb s)
theorem Dn.tup_inv {n : Nat} {v : V} {ds : List PyData} (h : Dn K S H (n + 1) v (.tuple ds)) : ∃ a xs, v = .ref a ∧ SqT K H a xs ∧ xs.length ≤ 100000 ∧ Paired (Dn K S H n) xs ds := by
  rcases h with h | ⟨a, xs, ds', e1, e2, ha, hq, hl, p⟩ | ⟨a, xs, ds', e1, e2, ha, hq, hl, p⟩
  · cases h
  · cases e2
  · cases e2; exact ⟨a, xs, e1, hq, hl, p⟩
theorem Dn.lst_inv {n : Nat} {v : V} {ds : List PyData} (h : Dn K S H (n + 1) v (.list ds)) : ∃ a xs, v = .ref a ∧ SqL K H a xs ∧ xs.length ≤ 100000 ∧ Paired (Dn K S H n) xs ds := by
  rcases h with h | ⟨a, xs, ds', e1, e2, ha, hq, hl, p⟩ | ⟨a, xs, ds', e1, e2, ha, hq, hl, p⟩
  · cases h
  · cases e2; exact ⟨a, xs, e1, hq, hl, p⟩
  · cases e2
theorem Dn.int_inv {v : V} {i : Int} : ∀ {n : Nat}, Dn K S H n v (.int i) → v = .int i
  | 0, h => by cases h; rfl
  | n + 1, h => by
    rcases h with h | ⟨a, xs, ds', e1, e2, _⟩ | ⟨a, xs, ds', e1, e2, _⟩
    · cases h; rfl
    · cases e2
    · cases e2
theorem Dn.str_inv {v : V} {z : Str} : ∀ {n : Nat}, Dn K S H n v (.str z) → v = .str z
  | 0, h => by cases h; rfl
  | n + 1, h => by
    rcases h with h | ⟨a, xs, ds', e1, e2, _⟩ | ⟨a, xs, ds', e1, e2, _⟩
    · cases h; rfl
    · cases e2
    · cases e2
theorem Paired.ints_inv {n : Nat} : ∀ {ns : List Int} {xs : List V}, Paired (Dn K S H n) xs (ns.map PyData.int) → xs = ns.map V.int
  | [], _, .nil => rfl
  | _ :: _, _, .cons r t => by rw [Dn.int_inv r, Paired.ints_inv t]; rfl
end
end Wk
set_option Elab.async false
set_option linter.all false
set_option maxRecDepth 100000
set_option maxHeartbeats 4000000
/-! Wk: short loops unrolled, further steps over the ledger. -/
namespace Wk
open PySem PySem.Spec PyProof.Rows L2
section
variable {g : TG} {tb : TS} {D : Ends} {σ : L2.St} {H : Hp}
/-- the rest of a loop over a text, sign by sign -/
def unrS (g : TG) (tb : TS) (D : Ends) : List Nat → L2.St → Hp → Prop
  | [], σ, H => D.nx σ H
  | c :: cs, σ, H => g (.str ⟨#[c]⟩) σ H fun σ2 H2 => tb { D with nx := unrS g tb D cs, ct := unrS g tb D cs, bk := D.nx } σ2 H2
theorem w_unr {x : Str} (h : unrS g tb D x.cps.toList σ H) : KForS g tb D σ (.str x) H := by
  refine ⟨x, rfl, fun i m σ H => unrS g tb D (x.cps.toList.drop i) σ H ∧ m = x.cps.size - i, ⟨_, h, rfl⟩, ?_⟩
  rintro i m σ H ⟨h1, rfl⟩
  cases e : x.cps.toList.drop i with
  | nil =>
    rw [e] at h1
    refine .inl ⟨?_, h1⟩
    have l := congrArg List.length e
    rw [List.length_drop, Array.length_toList, List.length_nil] at l
    show x.cps.size ≤ i
    omega
  | cons c r =>
    rw [e] at h1
    have l := congrArg List.length e
    rw [List.length_drop, Array.length_toList, List.length_cons] at l
    have hi : i < x.cps.size := by omega
    have er : x.cps.toList.drop (i + 1) = r := by rw [← List.drop_drop, e]; rfl
    have ec : x.cps[i]? = some c := by
      have z : x.cps.toList[i]? = some c := by
        have := List.head?_drop (l := x.cps.toList) (i := i)
        rw [e] at this
        exact this.symm
      rw [← Array.getElem?_toList]
      exact z
    refine .inr ⟨hi, unrS g tb D r, fun σ' H' n => ⟨x.cps.size - (i + 1), by omega, er ▸ n, rfl⟩, ?_⟩
    rintro y H' ⟨rfl, c', hc', rfl⟩
    rw [ec] at hc'
    cases hc'
    exact h1
end
end Wk
set_option Elab.async false
set_option linter.all false
set_option maxRecDepth 100000
set_option maxHeartbeats 4000000
/-! Wk: own exception classes over an own class over ValueError: made, raised, caught. -/
namespace Wk
open PySem PySem.Spec PyProof.Rows L2
section
variable {X : Cx} {e : Expr} {es : List Expr} {ta : TA} {p1 p2 pos : Pos}
/-- B.__init__(self, ..), B an own class that leaves __init__ to ValueError -/
theorem pe_weinit {x : Str} {B : Addr} {mc : Value} {pl : Sem Bool} (hg : Gl X x) (hm : X.mg x = some (.ref B)) (hsp : PySem.W.specialIn X.K (.ref B) "__getattribute__" = some (some (.builtin "type.__getattribute__"))) (hr : PySem.W.readsIn X.K B mc = true)
    (vV : PySem.W.findCls X.K (.ref B) mc "__init__" = some (.val (.builtin "ValueError.__init__"))) (ha : PA X (e :: es) ta)
    (hc : eval (.Call (.Attribute (.Name x p1) "__init__" p2) (e :: es) [] pos) X.env = (do
      let ov ← eval (.Name x p1) X.env
      standAt p2.atName
      let (f, first) ← holding [ov] (getMethod ov "__init__" pl)
      callWith pos f first (backTo pos (starEach (e :: es) X.env)) (backToKw pos (keywordEach [] X.env))) := by rfl) (hdb : (x == ("__debug__" : Str)) = false := by decide)
    (he : starEach (e :: es) X.env = (false, eval e X.env) :: starEach es X.env := by rfl) (hpl : (backTo pos (starEach es X.env)).any (·.1) = false := by rfl) :
    PE X (.Call (.Attribute (.Name x p1) "__init__" p2) (e :: es) [] pos) (tVeI X.K ta) := by
  refine ⟨fun pins s σ H Q I h => ?_⟩
  refine PySem.W.methodCall_KW (ld_glob I hg hm ?_ hdb) hc
  refine PySem.W.method_cls I.kIn hsp (PySem.W.cls_value I.kIn hr vV (by decide +kernel) ?_)
  show wpAny _ _ (callWith pos (Value.builtin "ValueError.__init__") [] (backTo pos (starEach (e :: es) X.env)) []) _ _ _
  refine PyProof.Rows.callWith_method1 (thn (ha.run pos pins _ σ H _ (I.tok _) h) fun us s1 ⟨vs, H1, I1, r1, a, C, ws, ev, hl, T, ea, q⟩ => ?_) he hpl
  subst ev
  cases r1 with
  | @cons _ u0 _ ur ra rw' =>
    obtain rfl : u0 = Value.ref a := ra
    have hlen : ur.length ≤ sizeLine := by
      rw [← Paired.length rw', sizeLine_eq]
      omega
    exact oinit_ok T I1 ea hlen fun s' J => ⟨.non, H1, J, rfl, q⟩
end

/-! ### an own class is called: its __init__ is walked; the new error's context is None -/
section
variable {X : Cx} {e : Expr} {es : List Expr} {ta : TA} {p pos : Pos}
theorem pmk_oexN {CX : CXT} {x : Str} {C fI : Addr} {k : Nat} {fd : FuncData} {ps : List Str} {sp : Sp} {ds : List Value} {dvs : List V} (T : OexC X.K C) (iC : PySem.W.findIn X.K (.ref C) "__init__" = some (some (.ref fI)))
    (tI : PySem.W.typeIn X.K (.ref fI) = some (.type "function")) (F1 : FnOk X.prog X.w X.K X.mg X.base CX k fI fd ps sp) (hr : Room (k + 1) X.A) (hb : Binds X.K fd ps ds) (hd : Vals dvs ds) (hx : Passes CX X (fun _ _ _ => False))
    (hg : Gl X x) (hm : X.mg x = some (.ref C)) (ha : PA X (e :: es) ta) (hdb : (x == ("__debug__" : Str)) = false := by decide)
    (he : starEach (e :: es) X.env = (false, eval e X.env) :: starEach es X.env := by rfl) (hpl : (backTo pos (starEach es X.env)).any (·.1) = false := by rfl) :
    L2N.PMk X (.Call (.Name x p) (e :: es) [] pos) (tMkO C sp dvs ta) := by
  intro pins s σ H Q I h
  obtain ⟨nm, q, N, bs, bm, sn, sub, ab, col, dd, k0, k1, k2, k3, k5, hC, hbm⟩ := T.cls
  refine wpAny_Call_Name_kw (ld_glob I hg hm ?_ hdb)
  refine PySem.W.callWith_K (h₀ := X.base) I.ok.mod.kin T.kC (thn (ha.run pos pins s σ H _ I h) fun us s1 ⟨vs, H1, I1, r1, hz, q1⟩ => ⟨I1.kIn, ?_⟩) he hpl
  show wpAny _ _ (call (.ref C) us) _ _ _
  obtain ⟨hp, g, dr, tk, os⟩ := s1
  have above : hp.objs.size ≤ hp.objs.size + 1 := Nat.le_add_right _ 1
  have free : H1 (hp.objs.size + 1) = none := I1.hok.fresh above
  have stay : ∀ b o, hp.get? b = some o → ((hp.push (PySem.W.kdv_tup us)).push (PySem.HandSPX.excO C hp.objs.size)).get? b = some o :=
    fun b o z => Heap.get?_push_of_some _ (Heap.get?_push_of_some _ z)
  have new : ((hp.push (PySem.W.kdv_tup us)).push (PySem.HandSPX.excO C hp.objs.size)).get? (hp.objs.size + 1) = some (PySem.HandSPX.excO C hp.objs.size) := by heap_get
  have I2 : Inv X pins σ (upd H1 (hp.objs.size + 1) (exo (hp.objs.size + 1) C none)) ⟨(hp.push (PySem.W.kdv_tup us)).push (PySem.HandSPX.excO C hp.objs.size), g, dr, tk, os⟩ :=
    I1.laid (t' := tk) (a := hp.objs.size + 1) (o := exo (hp.objs.size + 1) C none) (h' := (hp.push (PySem.W.kdv_tup us)).push (PySem.HandSPX.excO C hp.objs.size)) stay above (exo_ok new)
  have body := q1 (hp.objs.size + 1) free
  have rel : Vals (V.ref (hp.objs.size + 1) :: (vs ++ dvs)) (Value.ref (hp.objs.size + 1) :: (us ++ ds)) := .cons rfl (r1.append hd)
  have many : (Value.ref (hp.objs.size + 1) :: us ++ ds).length = ps.length := by
    have z := rel.length
    rw [F1.len _ _ _ _ body] at z
    exact z.symm
  have short : us.length ≤ sizeLine := by
    have z := Paired.length r1
    have z2 := sizeLine_eq
    omega
  refine wpAny_call (PySem.HandSPX.call_own F.excBase_ValueError (fun Y => PySem.HandSPX.refsVE_contains Y bm hbm) (I1.kIn _ _ hC) (PySem.W.looks_findIn I1.kIn iC) (fun self => PySem.W.bind_fn I1.kIn self tI) short
    (codeAny_mono (F1.run _ X.stack _ _ ⟨Value.ref (hp.objs.size + 1) :: us, []⟩ (Value.ref (hp.objs.size + 1) :: (us ++ ds)) _ _ (fun _ _ _ => False) (hr.make C us []) (I2.env0.make C us []) (hb _ (Value.ref (hp.objs.size + 1) :: us) I2.kIn many) rel body) fun r s' out => ?_))
  cases r with
  | error er => exact hx pins σ _ _ er s' I2 out
  | ok fl =>
    cases fl with
    | next => exact False.elim out
    | brk => exact False.elim out
    | cont => exact False.elim out
    | ret u =>
      obtain ⟨v, H2, os2, bare2, un2, hok2, rv, ev, d, fs, ea, ed, hd1, q2⟩ := out
      subst ev
      obtain ⟨h2, g2, d2, t2, os'⟩ := s'
      obtain ⟨t0, G, J, kG, ge, hoe, na⟩ := mk_end0 (d2 := d2) (t2 := t2) I1 above stay un2 hok2 os2 bare2 ea ed hd1
      exact ⟨rv, _, _, _, ⟨G, g2, d2, t2, os'⟩, _, .ref C, some d, rfl, J, kG, ge, hoe, ⟨rfl, rfl, fun vs z => by cases z; rfl⟩, rfl, rfl, na, rfl, bare2, raises_own T.exC T.tyC, q2⟩
end

/-! ### a handled error that stands pinned: its class is asked, its fields are read -/
/-- isinstance(e, c), e the pinned error of the class D with its dict at dd -/
def rIsP (K : PySem.W.Frag) (D a dd : Addr) : List V → Hp → VK → Prop := fun xs H Q =>
  ∃ (c : V) (cv : Value) (b : Bool) (fs : List (Str × V)), xs = [.ref a, c] ∧ (∀ u, RelV c u → u = cv) ∧ PySem.W.kitOne K (.ref D) cv = some b ∧ H dd = some (.xd fs) ∧ Q (.bl b) H
theorem call_isP {X : Cx} {a D dd : Addr} {oe : Obj} (C : ExcC X.K D) (hp : (a, oe) ∈ X.pn) (hz : L2.Zc (.ref D) (some dd) oe) (hf : ∃ vs, oe.data = .fields vs) : CallR X (.builtin "isinstance") (rIsP X.K D a dd) := by
  intro pins s σ H xs us Q I r h
  obtain ⟨c, cv, b, fs, rfl, hcv, e, hd, q⟩ := h
  cases r with
  | cons rx rr =>
    cases rr with
    | cons rt rr =>
      cases rr
      cases rx
      have ec := hcv _ rt
      subst ec
      obtain ⟨hget, _⟩ := I.pin (a, oe) (List.mem_append_left _ hp)
      obtain ⟨vs, hv⟩ := hf
      have ho : ObjOk X.prog X.w H s.heap dd (.xd fs) := I.hok dd _ hd
      obtain ⟨od, hod⟩ := objOk_get ho
      have J : PySem.W.InstAt s.heap a oe D (some od) := ⟨hget, hz.1, by unfold PySem.W.notCls; rw [hv] <;> rfl, by rw [hz.2]; exact hod⟩
      have hcl : (PySem.W.clsIn X.K D).isSome = true := by
        obtain ⟨cd, hc, _⟩ := PySem.W.any_some C.hd
        rw [hc]
        rfl
      exact PySem.W.kia_one (PySem.W.kitx_exc hcl C.hg C.hk C.hs C.ha C.hn C.ht C.hm) I.kIn J e (fun z => nomatch z) fun tk => ⟨.bl b, H, I.kept (t' := tk) fun _ _ z => z, rfl, q⟩
theorem pe_xfP {X : Cx} {a C : Addr} {oe : Obj} {cls : Value} {d : Option Addr} {e : Expr} {te : TE} {pos : Pos} {n : Str} (T : XfC X.K C) (hno : PySem.W.findIn X.K (.ref C) n = some none)
    (hp : (a, oe) ∈ X.pn) (hz : L2.Zc cls d oe) (hf : ∃ vs, oe.data = .fields vs) (he : PE X e te) (hb : attributeBase e n X.env (eval e X.env) = eval e X.env := by rfl) : PE X (.Attribute e n pos) (tXf a cls d C n te) := by
  refine ⟨fun pins s σ H Q I h => ?_⟩
  refine attr_of hb (thn (he.run pins s σ H _ I h) fun u s1 out => ?_)
  obtain ⟨x, H1, I1, rx, ex, ec, dd, fs, v, ed, ea, l, q⟩ := out
  subst ex ec ed
  obtain rfl : u = Value.ref a := rx
  have hget := (I1.pin (a, oe) (List.mem_append_left _ hp)).1
  obtain ⟨vs, hd⟩ := hf
  obtain ⟨mA, hns, hr⟩ := (I1.hok dd _ ea : ObjOk X.prog X.w H1 s1.heap dd (.xd fs))
  obtain ⟨od, ho, hl⟩ := lookIn_ns hns
  obtain ⟨u, hu, ru⟩ := RelO.some_of (v := v) (o := mA n) (by rw [← l]; exact hr n)
  have J : PySem.W.InstAt s1.heap a oe C (some od) := ⟨hget, hz.1, by unfold PySem.W.notCls; rw [hd] <;> rfl, by rw [hz.2]; exact ho⟩
  exact PySem.HandSPX.exc_get I1.kIn J T.ga T.gg T.exC (PySem.W.findObj_own T.hdC hno rfl (by rw [hl, hu])) (handed_of ru) ⟨v, H1, I1.tok _, ru, q⟩

/-! ### a def that gets the handled error: its contract speaks of the error's object -/
abbrev SpP := Addr × Obj → Sp
structure FnE (P : Program) (w : World) (K : PySem.W.Frag) (mg : Str → Option Value) (base : Heap) (CX : CXT) (k : Nat) (f : Addr) (fd : FuncData) (ps : List Str) (sp : SpP) : Prop where
  len : ∀ p vs H Q E, sp p vs H Q E → vs.length = ps.length
  run : ∀ (A : Around) (outer : List Env) (s : Shared) (H : Hp) (args : Args) (us : List Value) (vs : List V) (Q : VK) (E : XK) (p : Addr × Obj), L2H.RoomH k A → L2H.Hot1 A p → L2H.PinOk outer H s p → Env0 P w K mg base A outer s H →
    BindsTo s fd args (ps.zip us) → Vals vs us → sp p vs H Q E → codeAny (model P w) A (.call (.ref f) args) (CR CX outer P w H s Q E) s
theorem fn_ofE {CX : CXT} {P : Program} {w : World} {K : PySem.W.Frag} {mg : Str → Option Value} {base : Heap} {k : Nat} {f : Addr} {name qual : Str} {params : Arguments} {body : List Stmt} {scope : Scope} {dV kV doc pm cdv ct oc : Value} {an od : Option Addr}
    {osl : Array (Option Value)} {N ps : List Str} {sp : SpP} (lk : K.lookup f = some ⟨oc, od, .func (PySem.W.fnOf name qual params body scope dV kV doc pm an cdv ct), osl⟩) (hcd : PySem.W.codeIn K cdv qual = true) (S : FnScope N ps scope)
    (len : ∀ p vs H Q E, sp p vs H Q E → vs.length = ps.length)
    (hbody : ∀ (A : Around) (outer : List Env) (s : Shared) (H : Hp) (vs : List V) (Q : VK) (E : XK) (p : Addr × Obj), L2H.Hot1 A p → L2H.RoomH k (A.deeper (envOfC qual scope s.heap.objs.size f cdv)) → sp p vs H Q E →
      ∃ t, PSs (L2H.cxH CX P w K mg base N qual scope f cdv A outer s H E p) body t ∧ t { nx := fun _ H' => Q .non H', rt := Q } (L2.start N vs) H) :
    FnE P w K mg base CX (k + 1) f (PySem.W.fnOf name qual params body scope dV kV doc pm an cdv ct) ps sp := by
  refine ⟨len, fun A outer s H args us vs Q E p room hot pin e0 binds rel told => ?_⟩
  have many := len _ _ _ _ _ told
  have KX : K.In s.heap := e0.mod.kin.keeps fun b o z => (e0.bs b o z).1
  have lim : s.heap.NoLimit := e0.mod.nolimit.keeps fun b o z => (e0.bs b o z).1
  have kinds : ∀ y ∈ ps.zip us, scope.names.lookup y.1 = some .local ∨ (scope.names.lookup y.1 = some .cell ∧ ((cellsFrom (s.heap.objs.size + 1) scope.names []).lookup y.1).isSome = true) := by
    rintro ⟨n, v⟩ hy
    rcases S.par n (List.of_mem_zip hy).1 with z | z
    · exact .inl z
    · exact .inr ⟨z, PySem.W.cellsFrom_some _ _ _ (.inl z)⟩
  refine codeAny_call_function room.depth (KX _ _ lk) rfl S.co S.gen rfl (PySem.W.codeRec_of KX hcd) (binds _ _ _ _ ?_)
  refine wpAny_newFunctionEnv_cells S.kind kinds fun env he s1 x => ?_
  subst he
  refine ⟨lim.keeps x.toInCall.keep, codeAny_func ?_⟩
  obtain ⟨t, walk, goal⟩ := hbody A outer s H vs Q E p hot (room.deeper _) told
  have I : Inv (L2H.cxH CX P w K mg base N qual scope f cdv A outer s H E p) [] (L2.start N vs) H s1 := L2H.inv_startH S pin e0 many rel x
  refine wpAny_mono (walk.run [] s1 (L2.start N vs) H _ I goal) (fun fl s' out => ?_) fun e s' out => out
  have back : ∀ {σ' : L2.St} {H' : Hp} {v : V} {u : Value}, Inv (L2H.cxH CX P w K mg base N qual scope f cdv A outer s H E p) [] σ' H' s' → RelV v u → Q v H' → CE outer P w H s Q u s' :=
    fun {σ' H' v u} J rv q => ⟨v, H', J.os, J.bare, J.base, J.hok, rv, q⟩
  cases fl with
  | next =>
    obtain ⟨σ', H', J, q⟩ := out
    exact back (v := V.non) (u := Value.none) J rfl q
  | ret u =>
    obtain ⟨v, σ', H', J, rv, q⟩ := out
    exact back J rv q
  | brk =>
    obtain ⟨_, _, _, q⟩ := out
    exact False.elim q
  | cont =>
    obtain ⟨_, _, _, q⟩ := out
    exact False.elim q
section
variable {X : Cx} {CX : CXT} {k : Nat} {f : Addr} {fd : FuncData} {ps : List Str} {sp : SpP} {E : L2.St → XK} {x : Str} {q pos : Pos} {e : Expr} {es : List Expr} {t : TA}
/-- f(e, ..) within a suite whose handled error is p -/
theorem pe_callE {p : Addr × Obj} {sp2 : Sp} (imp : ∀ vs H Q E, sp2 vs H Q E → sp p vs H Q E) (F : FnE X.prog X.w X.K X.mg X.base CX k f fd ps sp) (hr : L2H.RoomH k X.A) (hot : L2H.Hot1 X.A p) (hp : p ∈ X.pn) (hg : Gl X x) (hm : X.mg x = some (.ref f)) (hk : PySem.W.keepIn X.K (.ref f) = true) (hb : Binds X.K fd ps [])
    (hx : ∀ σ, PassesAt CX X σ (E σ)) (ha : PA X (e :: es) t) (hdb : (x == ("__debug__" : Str)) = false := by decide) (he : starEach (e :: es) X.env = (false, eval e X.env) :: starEach es X.env := by rfl)
    (hpl : (backTo pos (starEach es X.env)).any (·.1) = false := by rfl) : PE X (.Call (.Name x q) (e :: es) [] pos) (tCallS sp2 E t) := by
  refine ⟨fun pins s σ H Q I h => ?_⟩
  refine wpAny_Call_Name_kw (ld_glob I hg hm ?_ hdb)
  refine PySem.W.callWith_K (h₀ := X.base) I.ok.mod.kin hk (thn (ha.run pos pins s σ H _ I h) fun us s1 ⟨vs, H1, I1, rel, told⟩ => ⟨I1.kIn, ?_⟩) he hpl
  have many : us.length = ps.length := by rw [← rel.length]; exact F.len _ _ _ _ _ (imp _ _ _ _ told)
  have binds := hb s1 us I1.kIn (by rw [List.append_nil]; exact many)
  rw [List.append_nil] at binds
  have P1 := I1.pin p (List.mem_append_left _ hp)
  have pin : L2H.PinOk X.stack H1 s1 p := ⟨P1.1, P1.2.1, fun hm => (List.mem_cons.mp (I1.stkSub p.1 hm)).elim P1.2.2.1 P1.2.2.2.1, P1.2.2.2.2⟩
  refine wpAny_call (codeAny_mono (F.run X.A X.stack s1 H1 ⟨us, []⟩ us vs Q (E σ) p hr hot pin I1.env0 binds rel (imp _ _ _ _ told)) fun r s' out => ?_)
  cases r with
  | error e => exact hx σ pins H1 s1 e s' I1 out
  | ok fl =>
    cases fl with
    | ret u => exact I1.after out
    | next => exact False.elim out
    | brk => exact False.elim out
    | cont => exact False.elim out
end

/-! ### defs that may raise, under their names; nothing is let out that is not told -/
structure CalN (P : Program) (w : World) (K : PySem.W.Frag) (mg : Str → Option Value) (base : Heap) (k : Nat) (x : Str) (sp : Sp) : Prop where
  ex : ∃ (f : Addr) (fd : FuncData) (ps : List Str), FnOk P w K mg base (L2N.CX P w) k f fd ps sp ∧ mg x = some (.ref f) ∧ PySem.W.keepIn K (.ref f) = true ∧ Binds K fd ps []
theorem passN {X : Cx} : Passes (L2N.CX X.prog X.w) X (fun _ _ _ => False) := fun _ _ _ _ _ _ _ h => by
  obtain ⟨_, _, _, _, _, _, _, _, _, _, _, _, z⟩ := h
  exact z.elim
section
variable {X : Cx} {k j : Nat} {sp : Sp} {W : WX} {x : Str} {q pos : Pos} {e : Expr} {es : List Expr} {t : TA}
theorem pe_cN (c : CalN X.prog X.w X.K X.mg X.base k x sp) (hr : Room j X.A) (hk : k ≤ j) (tk : L2N.Takes X W) (hg : Gl X x) (ha : PA X (e :: es) t)
    (hdb : (x == ("__debug__" : Str)) = false := by decide) (he : starEach (e :: es) X.env = (false, eval e X.env) :: starEach es X.env := by rfl) (hpl : (backTo pos (starEach es X.env)).any (·.1) = false := by rfl) :
    PE X (.Call (.Name x q) (e :: es) [] pos) (tCallS sp (WE W) t) := by
  obtain ⟨f, fd, ps, F, hm, kp, b⟩ := c.ex
  exact pe_callS F (hr.mono hk) hg hm kp b (fun σ => L2N.passAt tk σ) ha hdb he hpl
end
theorem takes0N {X : Cx} : L2N.Takes X (fun _ _ _ _ => False) := fun _ _ x => by
  obtain ⟨_, _, _, _, _, _, _, _, _, _, _, _, _, _, _, _, z⟩ := x
  exact z.elim
/-- behind the making of an error: what stood stands, and its dict -/
theorem made_heap {H1 : Hp} {a d C : Addr} {o1 : HO} {fs : List (Str × V)} (n : H1 a = none) (nd : d ≠ a) : upd (del (upd (upd (upd H1 a o1) d (exd d fs)) a (exo a C (some d))) a) d (.xd fs) = upd H1 d (.xd fs) := by
  funext b
  by_cases hd : b = d
  · rw [hd, upd_same, upd_same]
  · rw [upd_ne hd, upd_ne hd]
    by_cases ha : b = a
    · rw [ha, del_same, n]
    · rw [del_ne ha, upd_ne ha, upd_ne hd, upd_ne ha]
end Wk
set_option Elab.async false
set_option linter.all false
set_option maxRecDepth 100000
set_option maxHeartbeats 4000000
/-! Wk: methods and classes called with keywords; methods that may raise. -/
namespace Wk
open PySem PySem.Spec PyProof.Rows L2
section
variable {X : Cx} {CX : CXT} {k n : Nat} {f C : Addr} {fd : FuncData} {ps ks : List Str} {sp : Sp} {x m : Str} {p pos apos : Pos} {e o : Expr} {es : List Expr} {kws : List Keyword} {ta : TE} {t tk : TA} {g : List Value → List Value → List Value} {gV : List V → List V → List V}
theorem run_kwS {E : XK} {pins : List (Addr × Obj)} {σ : L2.St} {H : Hp} {s : Shared} {Q : VK} {us ws : List Value} {vs zs : List V} (F : FnOk X.prog X.w X.K X.mg X.base CX k f fd ps sp) (hr : Room k X.A) (hb : KBn X.K fd ps n ks g gV) (hx : PassesAt CX X σ E)
    (I : Inv X pins σ H s) (r : Vals vs us) (rz : Vals zs ws) (l1 : vs.length = n) (l2 : zs.length = ks.length) (h : sp (gV vs zs) H Q E) : wpAny (model X.prog X.w) X.A (call (.ref f) us (ks.zip ws)) (EP X pins σ Q) X.xe s := by
  have r2 := hb.rel r rz
  refine wpAny_call (codeAny_mono (F.run X.A X.stack s H ⟨us, ks.zip ws⟩ (g us ws) (gV vs zs) Q E hr I.env0 (hb.to s us ws I.kIn (r.length.symm.trans l1) (rz.length.symm.trans l2)) r2 h) fun r s' out => ?_)
  cases r with
  | error e => exact hx pins H s e s' I out
  | ok fl =>
    cases fl with
    | ret u => exact I.after out
    | next => exact False.elim out
    | brk => exact False.elim out
    | cont => exact False.elim out
/-- o.m(k = v, ..) -/
def tMethK (C : Addr) (m : Str) (n : Nat) (sp : Sp) (gV : List V → List V → List V) (E : L2.St → XK) (ta : TE) (tk : TA) : TE := fun σ H Q => ta σ H fun x H1 => ∃ a dx fs, x = .ref a ∧ H1 a = some (.ins C dx fs) ∧ fs.lookup m = none ∧ tk σ H1 fun zs H2 => zs.length = n ∧ sp (gV [x] zs) H2 Q (E σ)
theorem pe_methK {E : L2.St → XK} {pl : Sem Bool} (he : PE X o ta) (c : Cls X.K C) (hm : Meth X.K C m f) (F : FnOk X.prog X.w X.K X.mg X.base CX k f fd ps sp) (hr : Room k X.A) (hb : KBn X.K fd ps 1 ks g gV) (hx : ∀ σ, PassesAt CX X σ (E σ)) (hkw : PK X kws tk)
    (hall : (backToKw pos (keywordEach kws X.env)).all (·.1.isSome) = true := by rfl) (hks : (backToKw pos (keywordEach kws X.env)).filterMap (·.1) = ks := by rfl)
    (hpl : ((backTo pos (starEach [] X.env)).any (·.1) || (backToKw pos (keywordEach kws X.env)).any (·.1.isNone)) = false := by rfl)
    (ht : eval (.Call (.Attribute o m apos) [] kws pos) X.env = (do
      let ov ← eval o X.env
      standAt apos.atName
      let (f, first) ← holding [ov] (getMethod ov m pl)
      callWith pos f first (backTo pos (starEach [] X.env)) (backToKw pos (keywordEach kws X.env))) := by rfl) :
    PE X (.Call (.Attribute o m apos) [] kws pos) (tMethK C m ks.length sp gV E ta tk) := by
  refine ⟨fun pins s σ H Q I h => ?_⟩
  refine PySem.W.methodCall_KW (pl := pl) (thn (he.run pins s σ H _ I h) fun u s1 ⟨x, H1, I1, rx, a, dx, fs, ex, ea, l, q⟩ => ?_) ht
  subst ex
  obtain rfl : u = Value.ref a := rx
  refine getmeth_ok I1 ea c hm l ?_
  refine PySem.W.callWith_KW0 (first := [.ref a]) (h₀ := X.base) I.ok.mod.kin hm.kp hall ?_ hpl
  refine thn (hkw.run pos pins s1 σ H1 _ I1 q) fun ws s2 ⟨zs, H2, I2, rz, l2, q2⟩ => ⟨I2.kIn, ?_⟩
  rw [hks]
  exact run_kwS (us := [.ref a]) (vs := [.ref a]) F hr hb (hx σ) I2 (.cons rfl .nil) rz rfl l2 q2
/-- o.m(e, ..) that may raise -/
def tMethE (C : Addr) (m : Str) (sp : Sp) (E : L2.St → XK) (ta : TE) (t : TA) : TE := fun σ H Q => ta σ H fun x H1 => ∃ a dx fs, x = .ref a ∧ H1 a = some (.ins C dx fs) ∧ fs.lookup m = none ∧ t σ H1 fun vs H2 => sp (x :: vs) H2 Q (E σ)
theorem pe_methE {E : L2.St → XK} {pl : Sem Bool} (he : PE X o ta) (c : Cls X.K C) (hm : Meth X.K C m f) (F : FnOk X.prog X.w X.K X.mg X.base CX k f fd ps sp) (hr : Room k X.A) (hb : Binds X.K fd ps []) (hx : ∀ σ, PassesAt CX X σ (E σ)) (ha : PA X (e :: es) t)
    (hst : starEach (e :: es) X.env = (false, eval e X.env) :: starEach es X.env := by rfl) (hpl : (backTo pos (starEach es X.env)).any (·.1) = false := by rfl)
    (ht : eval (.Call (.Attribute o m apos) (e :: es) [] pos) X.env = (do
      let ov ← eval o X.env
      standAt apos.atName
      let (f, first) ← holding [ov] (getMethod ov m pl)
      callWith pos f first (backTo pos (starEach (e :: es) X.env)) (backToKw pos (keywordEach [] X.env))) := by rfl) :
    PE X (.Call (.Attribute o m apos) (e :: es) [] pos) (tMethE C m sp E ta t) := by
  refine ⟨fun pins s σ H Q I h => ?_⟩
  refine PySem.W.methodCall_KW (pl := pl) (thn (he.run pins s σ H _ I h) fun u s1 ⟨x, H1, I1, rx, a, dx, fs, ex, ea, l, q⟩ => ?_) ht
  subst ex
  obtain rfl : u = Value.ref a := rx
  refine getmeth_ok I1 ea c hm l ?_
  refine PySem.W.callWith_K (first := [.ref a]) (h₀ := X.base) I.ok.mod.kin hm.kp (thn (ha.run pos pins s1 σ H1 _ I1 q) fun us s2 ⟨vs, H2, I2, r, q2⟩ => ⟨I2.kIn, ?_⟩) hst hpl
  exact run_fnS (us := .ref a :: us) (vs := .ref a :: vs) F hr hb (hx σ) I2 (.cons rfl r) q2
end
/-- no defaults: the values in the order of the parameters -/
theorem kbn0 {K : PySem.W.Frag} {x qual : Str} {params : Arguments} {body : List Stmt} {scope : Scope} {f : Addr} {fd : FuncData} {ps ks : List Str} {n : Nat} {g : List Value → List Value → List Value} {gV : List V → List V → List V} (F : FunD K x qual params body scope [] [] f fd)
    (hrel : ∀ {vs : List V} {us : List Value} {zs : List V} {ws : List Value}, Vals vs us → Vals zs ws → Vals (gV vs zs) (g us ws))
    (h : ∀ (kV doc pm : Value) (an : Option Addr) (cdv ct : Value) (us ws : List Value), us.length = n → ws.length = ks.length → bindArgs (PySem.W.fnOf x qual params body scope .none kV doc pm an cdv ct) ⟨us, ks.zip ws⟩ = pure (ps.zip (g us ws))) : KBn K fd ps n ks g gV := by
  obtain ⟨oc, od, dV, kV, doc, pm, an, cdv, ct, osl, rfl, lk, hcd, hD, hK⟩ := F.ex
  rcases hD with ⟨_, rfl⟩ | ⟨e, _⟩
  · exact ⟨fun s us ws _ l1 l2 => .of_eq (h kV doc pm an cdv ct us ws l1 l2), fun r1 r2 => hrel r1 r2⟩
  · exact absurd rfl e
/-! ### under their names -/
/-- a method called with keywords alone -/
structure MetK (P : Program) (w : World) (K : PySem.W.Frag) (mg : Str → Option Value) (base : Heap) (k : Nat) (C : Addr) (m : Str) (sp : Sp) (ks : List Str) (gV : List V → List V → List V) : Prop where
  ex : ∃ (f : Addr) (fd : FuncData) (ps : List Str) (g : List Value → List Value → List Value), Cls K C ∧ Meth K C m f ∧ FnOk P w K mg base C8.CX0 k f fd ps sp ∧ KBn K fd ps 1 ks g gV
/-- a method that may raise, called by place and with keywords -/
structure MetN (P : Program) (w : World) (K : PySem.W.Frag) (mg : Str → Option Value) (base : Heap) (k : Nat) (C : Addr) (m : Str) (sp : Sp) (ks : List Str) (gV : List V → List V → List V) : Prop where
  ex : ∃ (f : Addr) (fd : FuncData) (ps : List Str) (g : List Value → List Value → List Value), Cls K C ∧ Meth K C m f ∧ FnOk P w K mg base (L2N.CX P w) k f fd ps sp ∧ Binds K fd ps [] ∧ KBn K fd ps 1 ks g gV
/-- a class called with keywords alone -/
structure MakK (P : Program) (w : World) (K : PySem.W.Frag) (mg : Str → Option Value) (base : Heap) (k : Nat) (x : Str) (C : Addr) (sp : Sp) (ks : List Str) (gV : List V → List V → List V) : Prop where
  ex : ∃ (f : Addr) (fd : FuncData) (ps : List Str) (g : List Value → List Value → List Value), Mk K C f ∧ FnOk P w K mg base C8.CX0 k f fd ps sp ∧ mg x = some (.ref C) ∧ KBn K fd ps 1 ks g gV
section
variable {X : Cx} {k j : Nat} {C : Addr} {sp : Sp} {x m : Str} {p pos apos : Pos} {e o : Expr} {es : List Expr} {kws : List Keyword} {ta : TE} {t tk : TA} {ks : List Str} {gV : List V → List V → List V} {W : WX}
theorem pe_mtK {pl : Sem Bool} (c : MetK X.prog X.w X.K X.mg X.base k C m sp ks gV) (hr : Room j X.A) (hk : k ≤ j) (he : PE X o ta) (hkw : PK X kws tk)
    (hall : (backToKw pos (keywordEach kws X.env)).all (·.1.isSome) = true := by rfl) (hks : (backToKw pos (keywordEach kws X.env)).filterMap (·.1) = ks := by rfl)
    (hpl : ((backTo pos (starEach [] X.env)).any (·.1) || (backToKw pos (keywordEach kws X.env)).any (·.1.isNone)) = false := by rfl)
    (ht : eval (.Call (.Attribute o m apos) [] kws pos) X.env = (do
      let ov ← eval o X.env
      standAt apos.atName
      let (f, first) ← holding [ov] (getMethod ov m pl)
      callWith pos f first (backTo pos (starEach [] X.env)) (backToKw pos (keywordEach kws X.env))) := by rfl) :
    PE X (.Call (.Attribute o m apos) [] kws pos) (tMethK C m ks.length sp gV (fun _ => C8.E0) ta tk) := by
  obtain ⟨f, fd, ps, g, hc, hm, F, b⟩ := c.ex
  exact pe_methK he hc hm F (hr.mono hk) b (fun σ pins H s e s' I c => C8.pass0 (X := X) pins σ H s e s' I c) hkw hall hks hpl ht
theorem pe_mtKN {pl : Sem Bool} (c : MetN X.prog X.w X.K X.mg X.base k C m sp ks gV) (hr : Room j X.A) (hk : k ≤ j) (tk' : L2N.Takes X W) (he : PE X o ta) (hkw : PK X kws tk)
    (hall : (backToKw pos (keywordEach kws X.env)).all (·.1.isSome) = true := by rfl) (hks : (backToKw pos (keywordEach kws X.env)).filterMap (·.1) = ks := by rfl)
    (hpl : ((backTo pos (starEach [] X.env)).any (·.1) || (backToKw pos (keywordEach kws X.env)).any (·.1.isNone)) = false := by rfl)
    (ht : eval (.Call (.Attribute o m apos) [] kws pos) X.env = (do
      let ov ← eval o X.env
      standAt apos.atName
      let (f, first) ← holding [ov] (getMethod ov m pl)
      callWith pos f first (backTo pos (starEach [] X.env)) (backToKw pos (keywordEach kws X.env))) := by rfl) :
    PE X (.Call (.Attribute o m apos) [] kws pos) (tMethK C m ks.length sp gV (WE W) ta tk) := by
  obtain ⟨f, fd, ps, g, hc, hm, F, _, b⟩ := c.ex
  exact pe_methK he hc hm F (hr.mono hk) b (fun σ => L2N.passAt tk' σ) hkw hall hks hpl ht
theorem pe_mtN {pl : Sem Bool} (c : MetN X.prog X.w X.K X.mg X.base k C m sp ks gV) (hr : Room j X.A) (hk : k ≤ j) (tk' : L2N.Takes X W) (he : PE X o ta) (ha : PA X (e :: es) t)
    (hst : starEach (e :: es) X.env = (false, eval e X.env) :: starEach es X.env := by rfl) (hpl : (backTo pos (starEach es X.env)).any (·.1) = false := by rfl)
    (ht : eval (.Call (.Attribute o m apos) (e :: es) [] pos) X.env = (do
      let ov ← eval o X.env
      standAt apos.atName
      let (f, first) ← holding [ov] (getMethod ov m pl)
      callWith pos f first (backTo pos (starEach (e :: es) X.env)) (backToKw pos (keywordEach [] X.env))) := by rfl) :
    PE X (.Call (.Attribute o m apos) (e :: es) [] pos) (tMethE C m sp (WE W) ta t) := by
  obtain ⟨f, fd, ps, g, hc, hm, F, b, _⟩ := c.ex
  exact pe_methE he hc hm F (hr.mono hk) b (fun σ => L2N.passAt tk' σ) ha hst hpl ht
theorem pe_mkK (c : MakK X.prog X.w X.K X.mg X.base k x C sp ks gV) (hr : Room j X.A) (hk : k + 1 ≤ j) (hg : Gl X x) (hkw : PK X kws tk)
    (hall : (backToKw pos (keywordEach kws X.env)).all (·.1.isSome) = true := by rfl) (hks : (backToKw pos (keywordEach kws X.env)).filterMap (·.1) = ks := by rfl) (hdb : (x == ("__debug__" : Str)) = false := by decide)
    (hpl : ((backTo pos (starEach [] X.env)).any (·.1) || (backToKw pos (keywordEach kws X.env)).any (·.1.isNone)) = false := by rfl) :
    PE X (.Call (.Name x p) [] kws pos) (tMakeK C 0 ks.length sp gV C8.E0 tNil tk) := by
  obtain ⟨f, fd, ps, g, M, F, hm, b⟩ := c.ex
  exact pe_makeK0 M F (hr.mono hk) hg hm b C8.pass0 hkw hall hks hdb hpl
end
end Wk
set_option Elab.async false
set_option linter.all false
set_option maxRecDepth 100000
set_option maxHeartbeats 4000000
/-! Wk: defs with keyword-only parameters: their defaults, their names, and what they raise. -/
namespace Wk
open PySem PySem.Spec PyProof.Rows L2
/-- f(e, .., k = v, ..) that may raise -/
def tCallNS (n m : Nat) (sp : Sp) (gV : List V → List V → List V) (E : L2.St → XK) (t tk : TA) : TE := fun σ H Q => t σ H fun vs H1 => tk σ H1 fun zs H2 => vs.length = n ∧ zs.length = m ∧ sp (gV vs zs) H2 Q (E σ)
/-- a def that may raise, called by place and with keywords -/
structure CalKN (P : Program) (w : World) (K : PySem.W.Frag) (mg : Str → Option Value) (base : Heap) (k : Nat) (x : Str) (sp : Sp) (n : Nat) (ks : List Str) (gV : List V → List V → List V) : Prop where
  ex : ∃ (f : Addr) (fd : FuncData) (ps : List Str) (g : List Value → List Value → List Value), FnOk P w K mg base (L2N.CX P w) k f fd ps sp ∧ mg x = some (.ref f) ∧ PySem.W.keepIn K (.ref f) = true ∧ KBn K fd ps n ks g gV
section
variable {X : Cx} {k j n : Nat} {sp : Sp} {x : Str} {p pos : Pos} {e : Expr} {es : List Expr} {kws : List Keyword} {t tk : TA} {ks : List Str} {gV : List V → List V → List V} {W : WX}
theorem pe_ckpN (c : CalKN X.prog X.w X.K X.mg X.base k x sp n ks gV) (hr : Room j X.A) (hk : k ≤ j) (tk' : L2N.Takes X W) (hg : Gl X x) (ha : PA X (e :: es) t) (hkw : PK X kws tk)
    (hall : (backToKw pos (keywordEach kws X.env)).all (·.1.isSome) = true := by rfl) (hks : (backToKw pos (keywordEach kws X.env)).filterMap (·.1) = ks := by rfl)
    (hdb : (x == ("__debug__" : Str)) = false := by decide) (he : starEach (e :: es) X.env = (false, eval e X.env) :: starEach es X.env := by rfl)
    (hpl : ((backTo pos (starEach (e :: es) X.env)).any (·.1) || (backToKw pos (keywordEach kws X.env)).any (·.1.isNone)) = false := by rfl) :
    PE X (.Call (.Name x p) (e :: es) kws pos) (tCallNS n ks.length sp gV (WE W) t tk) := by
  obtain ⟨f, fd, ps, g, F, hm, kp, b⟩ := c.ex
  refine ⟨fun pins s σ H Q I h => ?_⟩
  refine wpAny_Call_Name_kw (ld_glob I hg hm ?_ hdb)
  refine PySem.W.callWith_KW (h₀ := X.base) I.ok.mod.kin kp hall (thn (ha.run pos pins s σ H _ I h) fun us s1 ⟨vs, H1, I1, r, q⟩ => ?_) hpl he
  refine thn (hkw.run pos pins s1 σ H1 _ I1 q) fun ws s2 ⟨zs, H2, I2, rz, l1, l2, q2⟩ => ⟨I2.kIn, ?_⟩
  rw [hks]
  exact run_kwS F (hr.mono hk) b (L2N.passAt tk' σ) I2 r rz l1 l2 q2
end
/-- the keyword-only parameters are all written -/
theorem kbnK {K : PySem.W.Frag} {x qual : Str} {params : Arguments} {body : List Stmt} {scope : Scope} {kwd : List (Str × V)} {f : Addr} {fd : FuncData} {ps ks : List Str} {n : Nat} {g : List Value → List Value → List Value} {gV : List V → List V → List V} (F : FunD K x qual params body scope [] kwd f fd)
    (hrel : ∀ {vs : List V} {us : List Value} {zs : List V} {ws : List Value}, Vals vs us → Vals zs ws → Vals (gV vs zs) (g us ws))
    (h : ∀ (kV doc pm : Value) (an : Option Addr) (cdv ct : Value) (us ws : List Value), us.length = n → ws.length = ks.length → bindArgs (PySem.W.fnOf x qual params body scope .none kV doc pm an cdv ct) ⟨us, ks.zip ws⟩ = pure (ps.zip (g us ws))) : KBn K fd ps n ks g gV := by
  obtain ⟨oc, od, dV, kV, doc, pm, an, cdv, ct, osl, rfl, lk, hcd, hD, hK⟩ := F.ex
  rcases hD with ⟨_, rfl⟩ | ⟨e, _⟩
  · exact ⟨fun s us ws _ l1 l2 => .of_eq (h kV doc pm an cdv ct us ws l1 l2), fun r1 r2 => hrel r1 r2⟩
  · exact absurd rfl e
section
variable {P : Program} {w : World} {K : PySem.W.Frag} {mg : Str → Option Value} {base : Heap}
/-- called by place alone: the keyword-only parameters have their defaults -/
theorem mkD0 {x : Str} {st : Stmt} {N ps : List Str} {kwd : List (Str × V)} {k n : Nat} {sp : Sp} (d : DefKw K mg x st kwd) (S : FnScope N ps (defScope st)) (hk : kwd ≠ []) (hn : n + kwd.length = ps.length)
    (hb : ∀ (D : Addr) (doc pm : Value) (an : Option Addr) (cdv ct : Value) (us ks : List Value), us.length = n → ks.length = kwd.length →
      KwChain D ((kwd.map (·.1)).zip ks) (bindArgs (PySem.W.fnOf x x (defArgs st) (defBody st) (defScope st) .none (.ref D) doc pm an cdv ct) ⟨us, []⟩) (ps.zip (us ++ ks)))
    (len : ∀ vs H Q E, sp vs H Q E → vs.length = ps.length)
    (body : ∀ (f : Addr) (cdv : Value) (A : Around) (outer : List Env) (s : Shared) (H : Hp) (vs : List V) (Q : VK) (E : XK), Room k (A.deeper (envOfC x (defScope st) s.heap.objs.size f cdv)) → sp vs H Q E →
      ∃ t, PSs (cxOf C8.CX0 P w K mg base N x (defScope st) f cdv A outer s H E).nox (defBody st) t ∧ t { nx := fun _ H' => Q .non H', rt := Q } (start N vs) H) : C8.Cal P w K mg base (k + 1) x sp (kwd.map (·.2)) := by
  obtain ⟨f, fd, F, hm⟩ := d
  obtain ⟨ds, r, b⟩ := F.binds0 n hk hn hb
  exact ⟨f, fd, ps, ds, F.ok S len (fun cdv A outer s H vs Q E hr hsp => let ⟨t, h, q⟩ := body f cdv A outer s H vs Q E hr hsp; ⟨t, h.nox, q⟩), hm, F.kp, b, r⟩
/-- called with names for all that is written by name -/
theorem mkKg {x : Str} {st : Stmt} {N ps ks : List Str} {kwd : List (Str × V)} {k n : Nat} {sp : Sp} (d : DefKw K mg x st kwd) (S : FnScope N ps (defScope st)) (g : {α : Type} → List α → List α → List α)
    (hrel : ∀ {vs : List V} {us : List Value} {zs : List V} {ws : List Value}, Vals vs us → Vals zs ws → Vals (g vs zs) (g us ws))
    (hb : ∀ (kV doc pm : Value) (an : Option Addr) (cdv ct : Value) (us ws : List Value), us.length = n → ws.length = ks.length → bindArgs (PySem.W.fnOf x x (defArgs st) (defBody st) (defScope st) .none kV doc pm an cdv ct) ⟨us, ks.zip ws⟩ = pure (ps.zip (g us ws)))
    (len : ∀ vs H Q E, sp vs H Q E → vs.length = ps.length)
    (body : ∀ (f : Addr) (cdv : Value) (A : Around) (outer : List Env) (s : Shared) (H : Hp) (vs : List V) (Q : VK) (E : XK), Room k (A.deeper (envOfC x (defScope st) s.heap.objs.size f cdv)) → sp vs H Q E →
      ∃ t, PSs (cxOf C8.CX0 P w K mg base N x (defScope st) f cdv A outer s H E).nox (defBody st) t ∧ t { nx := fun _ H' => Q .non H', rt := Q } (start N vs) H) : CalK P w K mg base (k + 1) x sp n ks (fun vs zs => g vs zs) := by
  obtain ⟨f, fd, F, hm⟩ := d
  exact ⟨f, fd, ps, fun us ws => g us ws, F.ok S len (fun cdv A outer s H vs Q E hr hsp => let ⟨t, h, q⟩ := body f cdv A outer s H vs Q E hr hsp; ⟨t, h.nox, q⟩), hm, F.kp, kbnK F hrel hb⟩
end
theorem hd_cons1 {c : Cell} {o : HO} {H : Hp} {L : List Cell} (h : Hd H L) (e : H c.1 = some o) (q : c.2 o) (n : ∀ d ∈ L, d.1 ≠ c.1) : Hd H (c :: L) := ⟨List.nodup_cons.mpr ⟨fun z => by
  obtain ⟨d, hd, e⟩ := List.mem_map.mp z
  exact n d hd e, h.nd⟩, fun d hd => by
  rcases List.mem_cons.mp hd with rfl | hd
  · exact ⟨o, e, q⟩
  · exact h.at_ d hd⟩
/-! ### steps -/
section
variable {K : PySem.W.Frag} {σ : L2.St} {H : Hp} {Q : VK} {L M : List Cell} {p : Addr} {xs : List V}
theorem w_callNS {n m : Nat} {sp : Sp} {gV : List V → List V → List V} {E : L2.St → XK} {t tk : TA} (h : t σ H fun vs H1 => tk σ H1 fun zs H2 => vs.length = n ∧ zs.length = m ∧ sp (gV vs zs) H2 Q (E σ)) : tCallNS n m sp gV E t tk σ H Q := h
theorem w_callS {sp : Sp} {E : L2.St → XK} {t : TA} (h : t σ H fun vs H1 => sp vs H1 Q (E σ)) : tCallS sp E t σ H Q := h
theorem g_clear (hh : Hd H L) (k : Pk L (lstC p xs) M) (q : ∀ H2, Hd H2 (lstC p [] :: M) → Q .non H2) : rClear (.ref p) [] H Q := ⟨p, xs, rfl, rfl, (hh.pk k).lst (List.mem_cons_self ..), q _ (hh.chgL k Chg.of)⟩
end
end Wk
set_option Elab.async false
set_option linter.all false
set_option maxRecDepth 100000
set_option maxHeartbeats 4000000
/-! Wk: comprehensions with a test, over enumerate; cells that are told by a list. -/
namespace Wk
open PySem PySem.Spec PyProof.Rows L2
/-! ### comprehensions -/
def KLcE (K : PySem.W.Frag) (g : TG) (tt : TT) (te : TE) (us : List Nat) (σ : L2.St) (Q : VK) (vs : List V) (H : Hp) : Prop := ∃ a xs, vs = [.ref a] ∧ SqL K H a xs ∧ KLc (Ite K a) g tt te us σ H Q
section
variable {K : PySem.W.Frag} {σ : L2.St} {H : Hp} {Q : VK} {L : List Cell} {te tl : TE} {ta : TA} {tt : TT} {g : TG} {us : List Nat} {n m : Nat} {j : Int} {a : Addr} {xs : List V}
theorem w_lcE (h : ta σ H fun vs H1 => KLcE K g tt te us σ Q vs H1) : tLc (iEnum K ta) g tt te us σ H Q := h
theorem set2_none {n m : Nat} {x y : Option V} (h : n ≠ m) : ((((((σ.set m none).set n none).set n x).set m y).set m none).set n none) = (σ.set m none).set n none := by
  refine List.ext_getElem? fun k => ?_
  simp only [List.getElem?_set, List.length_set]
  split <;> split <;> simp_all
/-- [e for i, x in enumerate(xs) if t] -/
theorem lc_E (hnm : n ≠ m) (h : SqL K H a xs) (Pv : Nat → Addr → Hp → Prop) (h0 : ∀ D H1, New H H1 D (.lst []) → Pv 0 D H1) (hl : ∀ i D H, i ≤ xs.length → Pv i D H → SqL K H a xs)
    (hs : ∀ (i : Nat) x D H H', xs[i]? = some x → Pv i D H → Upt [] H H' → tt ((((σ.set m none).set n none).set n (some (.int (i : Int)))).set m (some x)) H' fun b H3 =>
      if b = true then te ((((σ.set m none).set n none).set n (some (.int (i : Int)))).set m (some x)) H3 (KApp D (Pv (i + 1) D)) else Pv (i + 1) D H3)
    (hd : ∀ D H, Pv xs.length D H → Q (.ref D) H) : KLcE K (gTup K 2 (gCons (gName n) (gCons (gName m) gNil))) tt te [n, m] σ Q [.ref a] H := by
  refine ⟨a, xs, rfl, h, fun D hD => ?_⟩
  refine lc_it walk_enum (fun i H => Pv i D H) (h0 D _ (New.of hD)) (fun i H hi p => hl i D H hi p) (fun i x H H' hi p y => ?_) fun H p => hd D H p
  obtain ⟨T, u, v, rfl, hT, rfl, hu, hv⟩ := y
  cases hu
  have nw := New.of (H := H) (o := HO.tup [V.int (i : Int), v]) hT
  refine w_gtup (SqT.of nw.at_) rfl ?_
  refine w_gcons (w_gname (w_gcons (w_gname (w_gnil ⟨?_, ?_⟩))))
  · exact set2_none hnm
  · exact hs i v D H _ hv p nw.keep
/-- [e for k in range(m) if t] -/
theorem lc_RF (hj : j = (m : Int)) (hb : m ≤ 1000000) (Pv : Nat → Addr → Hp → Prop) (h0 : ∀ D H1, New H H1 D (.lst []) → Pv 0 D H1)
    (hs : ∀ (i : Nat) D H, i < m → Pv i D H → tt ((σ.set n none).set n (some (.int (i : Int)))) H fun b H3 => if b = true then te ((σ.set n none).set n (some (.int (i : Int)))) H3 (KApp D (Pv (i + 1) D)) else Pv (i + 1) D H3)
    (hd : ∀ D H, Pv m D H → Q (.ref D) H) : KLcR (gName n) tt te [n] σ Q [.int j] H := by
  subst hj
  refine ⟨(m : Int), rfl, by omega, by omega, fun D hD => ?_⟩
  rw [show ((m : Int)).toNat = m by simp]
  refine lc_it (walk_range (lo := 0) (n := m)) (fun i H => Pv i D H) (h0 D _ (New.of hD)) (fun _ _ _ _ => trivial) (fun i x H H' hi p y => ?_) fun H p => hd D H p
  obtain ⟨rfl, rfl⟩ := y
  simp only [Int.zero_add]
  refine w_gname ⟨?_, hs i D _ hi p⟩
  show List.set (List.set (List.set σ n none) n (some (V.int (i : Int)))) n none = List.set σ n none
  simp
/-- [e for x in xs if t] -/
theorem lc_LF (h : SqL K H a xs) (Pv : Nat → Addr → Hp → Prop) (h0 : ∀ D H1, New H H1 D (.lst []) → Pv 0 D H1) (hl : ∀ i D H, i ≤ xs.length → Pv i D H → SqL K H a xs)
    (hs : ∀ (i : Nat) x D H, xs[i]? = some x → Pv i D H → tt ((σ.set n none).set n (some x)) H fun b H3 => if b = true then te ((σ.set n none).set n (some x)) H3 (KApp D (Pv (i + 1) D)) else Pv (i + 1) D H3)
    (hd : ∀ D H, Pv xs.length D H → Q (.ref D) H) : KLcL K (gName n) tt te [n] σ Q (.ref a) H := by
  refine ⟨a, rfl, ⟨xs, h⟩, fun D hD => ?_⟩
  refine lc_it walk_list (fun i H => Pv i D H) (h0 D _ (New.of hD)) (fun i H hi p => hl i D H hi p) (fun i x H H' hi p y => ?_) fun H p => hd D H p
  obtain ⟨rfl, hx⟩ := y
  refine w_gname ⟨?_, hs i x D _ hx p⟩
  show List.set (List.set (List.set σ n none) n (some x)) n none = List.set σ n none
  simp
theorem g_lcE (hh : Hd H L) (hnm : n ≠ m) (h : SqL K H a xs) (Pv : Nat → Addr → Hp → Prop) (h0 : ∀ D H1, Hd H1 (lstC D [] :: L) → Pv 0 D H1) (hl : ∀ i D H, i ≤ xs.length → Pv i D H → SqL K H a xs)
    (hs : ∀ (i : Nat) x D H H', xs[i]? = some x → Pv i D H → Upt [] H H' → tt ((((σ.set m none).set n none).set n (some (.int (i : Int)))).set m (some x)) H' fun b H3 =>
      if b = true then te ((((σ.set m none).set n none).set n (some (.int (i : Int)))).set m (some x)) H3 (KApp D (Pv (i + 1) D)) else Pv (i + 1) D H3)
    (hd : ∀ D H, Pv xs.length D H → Q (.ref D) H) : KLcE K (gTup K 2 (gCons (gName n) (gCons (gName m) gNil))) tt te [n, m] σ Q [.ref a] H := lc_E hnm h Pv (fun D H1 nn => h0 D H1 (hh.newL nn)) hl hs hd
theorem g_lcRF (hh : Hd H L) (hj : j = (m : Int)) (hb : m ≤ 1000000) (Pv : Nat → Addr → Hp → Prop) (h0 : ∀ D H1, Hd H1 (lstC D [] :: L) → Pv 0 D H1)
    (hs : ∀ (i : Nat) D H, i < m → Pv i D H → tt ((σ.set n none).set n (some (.int (i : Int)))) H fun b H3 => if b = true then te ((σ.set n none).set n (some (.int (i : Int)))) H3 (KApp D (Pv (i + 1) D)) else Pv (i + 1) D H3)
    (hd : ∀ D H, Pv m D H → Q (.ref D) H) : KLcR (gName n) tt te [n] σ Q [.int j] H := lc_RF hj hb Pv (fun D H1 nn => h0 D H1 (hh.newL nn)) hs hd
theorem g_lcLF (hh : Hd H L) (h : SqL K H a xs) (Pv : Nat → Addr → Hp → Prop) (h0 : ∀ D H1, Hd H1 (lstC D [] :: L) → Pv 0 D H1) (hl : ∀ i D H, i ≤ xs.length → Pv i D H → SqL K H a xs)
    (hs : ∀ (i : Nat) x D H, xs[i]? = some x → Pv i D H → tt ((σ.set n none).set n (some x)) H fun b H3 => if b = true then te ((σ.set n none).set n (some x)) H3 (KApp D (Pv (i + 1) D)) else Pv (i + 1) D H3)
    (hd : ∀ D H, Pv xs.length D H → Q (.ref D) H) : KLcL K (gName n) tt te [n] σ Q (.ref a) H := lc_LF h Pv (fun D H1 nn => h0 D H1 (hh.newL nn)) hl hs hd
end
/-! ### cells that are told by a list -/
theorem Hd.subl {H : Hp} {L A : List Cell} (h : Hd H L) (s : List.Sublist A L) : Hd H A := ⟨(s.map Prod.fst).nodup h.nd, fun c hc => h.at_ c (s.subset hc)⟩
/-- the page of a slot: its list's place and its words -/
abbrev Pg := Option (Addr × List Int)
def pgV : Pg → V
  | none => .non
  | some p => .ref p.1
def pgK : Pg → List Cell
  | none => []
  | some p => [lstC p.1 (p.2.map V.int)]
def pgC (ps : List Pg) : List Cell := ps.flatMap pgK
theorem pgC_perm : ∀ {ps : List Pg} {i : Nat} (p : Pg), i < ps.length → (pgC (ps.set i p)).Perm (pgK p ++ pgC (ps.set i none))
  | q :: ps, 0, p, _ => by
    show (pgK p ++ pgC ps).Perm (pgK p ++ ([] ++ pgC ps))
    exact List.Perm.refl _
  | q :: ps, i + 1, p, h => by
    have ih := pgC_perm (ps := ps) (i := i) p (by simpa using h)
    show (pgK q ++ pgC (ps.set i p)).Perm (pgK p ++ (pgK q ++ pgC (ps.set i none)))
    refine (List.Perm.append_left _ ih).trans ?_
    rw [← List.append_assoc, ← List.append_assoc]
    exact List.Perm.append_right _ List.perm_append_comm
theorem pgC_none : ∀ {ps : List Pg} {i : Nat}, List.Sublist (pgC (ps.set i none)) (pgC ps)
  | [], _ => List.Sublist.refl _
  | q :: ps, 0 => List.sublist_append_right (pgK q) (pgC ps)
  | q :: ps, i + 1 => by
    show List.Sublist (pgK q ++ pgC (ps.set i none)) (pgK q ++ pgC ps)
    exact List.Sublist.append (List.Sublist.refl _) pgC_none
theorem pgC_mem {ps : List Pg} {i : Nat} {a : Addr} {ws : List Int} (h : ps[i]? = some (some (a, ws))) : lstC a (ws.map V.int) ∈ pgC ps :=
  List.mem_flatMap.mpr ⟨some (a, ws), List.mem_of_getElem? h, List.mem_singleton.mpr rfl⟩
section
variable {H H' : Hp} {L R : List Cell} {ps : List Pg} {i : Nat} {a : Addr} {ws vs : List Int}
/-- a new page stands in slot i -/
theorem Hd.pgNew (h : Hd H (lstC a (ws.map V.int) :: (pgC ps ++ R))) (hi : i < ps.length) : Hd H (pgC (ps.set i (some (a, ws))) ++ R) := by
  refine Hd.perm (Hd.subl h (List.Sublist.cons₂ _ (List.Sublist.append (pgC_none (i := i)) (List.Sublist.refl R)))) ?_
  exact ((pgC_perm (some (a, ws)) hi).append_right R).symm
/-- the page of slot i, by itself -/
theorem Hd.pgGet (h : Hd H (pgC ps ++ R)) (hp : ps[i]? = some (some (a, ws))) : Hd H (lstC a (ws.map V.int) :: (pgC (ps.set i none) ++ R)) := by
  have hi := (List.getElem?_eq_some_iff.mp hp).1
  have e : ps.set i (some (a, ws)) = ps := by
    obtain ⟨_, e⟩ := List.getElem?_eq_some_iff.mp hp
    rw [← e, List.set_getElem_self]
  have h2 : Hd H (pgC (ps.set i (some (a, ws))) ++ R) := by rw [e]; exact h
  exact Hd.perm h2 ((pgC_perm (some (a, ws)) hi).append_right R)
theorem Hd.pgPut (h : Hd H (lstC a (ws.map V.int) :: (pgC (ps.set i none) ++ R))) (hi : i < ps.length) : Hd H (pgC (ps.set i (some (a, ws))) ++ R) :=
  Hd.perm h ((pgC_perm (some (a, ws)) hi).append_right R).symm
end
end Wk
set_option Elab.async false
set_option linter.all false
set_option maxRecDepth 100000
set_option maxHeartbeats 4000000
/-! Wk: isinstance(e, (A, B, ..)) of a handled error. -/
namespace Wk
open PySem PySem.Spec PyProof.Rows L2
/-- isinstance(e, t), e the pinned error of the class D with its dict at dd, t a tuple of own classes -/
def rIsPT (K : PySem.W.Frag) (D a dd : Addr) : List V → Hp → VK → Prop := fun xs H Q =>
  ∃ (p : Addr) (cs : List Addr) (b : Bool) (fs : List (Str × V)), xs = [.ref a, .ref p] ∧ SqT K H p (cs.map V.ref) ∧ PySem.W.kitAny K (.ref D) (cs.map Value.ref) = some b ∧ H dd = some (.xd fs) ∧ Q (.bl b) H
theorem vals_refs : ∀ {cs : List Addr} {us : List Value}, Vals (cs.map V.ref) us → us = cs.map Value.ref
  | [], _, .nil => rfl
  | c :: cs, _, .cons (b := u) r t => by
    obtain rfl : u = Value.ref c := r
    rw [vals_refs t]
    rfl
theorem call_isPT {X : Cx} {a D dd : Addr} {oe : Obj} (C : ExcC X.K D) (hp : (a, oe) ∈ X.pn) (hz : L2.Zc (.ref D) (some dd) oe) (hf : ∃ vs, oe.data = .fields vs) : CallR X (.builtin "isinstance") (rIsPT X.K D a dd) := by
  intro pins s σ H xs us Q I r h
  obtain ⟨p, cs, b, fs, rfl, hq, e, hd, q⟩ := h
  cases r with
  | cons rx rr =>
    cases rr with
    | cons rt rr =>
      cases rr
      cases rx
      cases rt
      obtain ⟨its, rv, ht, _⟩ := I.tuple hq
      obtain ⟨ot, hot, hct, n, hdt⟩ := _root_.id ht
      obtain rfl := vals_refs rv
      obtain ⟨hget, _⟩ := I.pin (a, oe) (List.mem_append_left _ hp)
      obtain ⟨vs, hv⟩ := hf
      have ho : ObjOk X.prog X.w H s.heap dd (.xd fs) := I.hok dd _ hd
      obtain ⟨od, hod⟩ := objOk_get ho
      have J : PySem.W.InstAt s.heap a oe D (some od) := ⟨hget, hz.1, by unfold PySem.W.notCls; rw [hv] <;> rfl, by rw [hz.2]; exact hod⟩
      have hcl : (PySem.W.clsIn X.K D).isSome = true := by
        obtain ⟨cd, hc, _⟩ := PySem.W.any_some C.hd
        rw [hc]
        rfl
      obtain ⟨oc, od', odata, osl⟩ := ot
      cases hct
      cases hdt
      exact PySem.W.kia_tup (PySem.W.kitx_exc hcl C.hg C.hk C.hs C.ha C.hn C.ht C.hm) I.kIn J hot e (fun z => nomatch z) fun tk => ⟨.bl b, H, I.kept (t' := tk) fun _ _ z => z, rfl, q⟩
theorem c_isPT {K : PySem.W.Frag} {D a dd p : Addr} {fs : List (Str × V)} {cs : List Addr} {b : Bool} {H : Hp} {Q : VK} (hd : H dd = some (.xd fs)) (hq : SqT K H p (cs.map V.ref)) (e : PySem.W.kitAny K (.ref D) (cs.map Value.ref) = some b) (q : Q (.bl b) H) : CB (rIsPT K D a dd) [.ref a, .ref p] H Q :=
  ⟨p, cs, b, fs, rfl, hq, e, hd, q⟩
end Wk
set_option Elab.async false
set_option linter.all false
set_option maxRecDepth 100000
set_option maxHeartbeats 4000000
/-! Wk: a def that may raise, called by keywords alone. -/
namespace Wk
open PySem PySem.Spec PyProof.Rows L2
def tCallKS (m : Nat) (sp : Sp) (gV : List V → List V → List V) (E : L2.St → XK) (tk : TA) : TE := fun σ H Q => tk σ H fun zs H2 => zs.length = m ∧ sp (gV [] zs) H2 Q (E σ)
section
variable {X : Cx} {k j : Nat} {sp : Sp} {x : Str} {p pos : Pos} {kws : List Keyword} {tk : TA} {ks : List Str} {gV : List V → List V → List V} {W : WX}
theorem pe_ckN (c : CalKN X.prog X.w X.K X.mg X.base k x sp 0 ks gV) (hr : Room j X.A) (hk : k ≤ j) (tk' : L2N.Takes X W) (hg : Gl X x) (hkw : PK X kws tk)
    (hall : (backToKw pos (keywordEach kws X.env)).all (·.1.isSome) = true := by rfl) (hks : (backToKw pos (keywordEach kws X.env)).filterMap (·.1) = ks := by rfl)
    (hdb : (x == ("__debug__" : Str)) = false := by decide)
    (hpl : ((backTo pos (starEach [] X.env)).any (·.1) || (backToKw pos (keywordEach kws X.env)).any (·.1.isNone)) = false := by rfl) :
    PE X (.Call (.Name x p) [] kws pos) (tCallKS ks.length sp gV (WE W) tk) := by
  obtain ⟨f, fd, ps, g, F, hm, kp, b⟩ := c.ex
  refine ⟨fun pins s σ H Q I h => ?_⟩
  refine wpAny_Call_Name_kw (ld_glob I hg hm ?_ hdb)
  refine PySem.W.callWith_KW0 (h₀ := X.base) I.ok.mod.kin kp hall ?_ hpl
  refine thn (hkw.run pos pins s σ H _ I h) fun ws s2 ⟨zs, H2, I2, rz, l2, q2⟩ => ⟨I2.kIn, ?_⟩
  rw [hks]
  exact run_kwS F (hr.mono hk) b (L2N.passAt tk' σ) I2 .nil rz rfl l2 q2
end
end Wk
set_option Elab.async false
set_option linter.all false
set_option maxRecDepth 100000
set_option maxHeartbeats 4000000
/-! Wk: max(xs, key=x.m), x.m a method of an own class that changes nothing: the first of the greatest. -/
namespace Wk
open PySem PySem.Spec PyProof.Rows L2
/-- the first one of the greatest -/
def FstMax (n : Nat) (kf : Nat → Int) (i : Nat) : Prop := ∀ j, j < n → kf i ≥ kf j ∧ (j < i → kf i > kf j)
def rMaxK (K : PySem.W.Frag) (g : Addr) (sp : Sp) : List V → List V → Hp → VK → Prop := fun vs zs H Q =>
  ∃ (a q self : Addr) (xs : List V) (kf : Nat → Int), vs = [.ref a] ∧ zs = [.ref q] ∧ SqL K H a xs ∧ 0 < xs.length ∧ H q = some (.met g self) ∧
    (∀ (i : Nat) (v : V), xs[i]? = some v → ∀ Q' : VK, Q' (.int (kf i)) H → sp [.ref self, v] H Q' (fun _ _ _ => False)) ∧
    ∀ (i : Nat) (v : V), xs[i]? = some v → FstMax xs.length kf i → Q v H
section
variable {X : Cx} {pins : List (Addr × Obj)} {σ : L2.St} {H : Hp} {k : Nat} {g a q self I S : Addr} {sp : Sp} {xs : List V} {kf : Nat → Int} {Q : VK}
/-- the key's call -/
theorem key_turn {pn : List (Addr × Obj)} {s : Shared} {v : V} {u : Value} {n : Int} (F : FnR X.prog X.w X.K X.mg X.base C8.CX0 k g sp) (hr : Room (k + 1) X.A) (J : Inv X pn σ H s) (hq : H q = some (.met g self)) (r : RelV v u)
    (hs : ∀ Q' : VK, Q' (.int n) H → sp [.ref self, v] H Q' (fun _ _ _ => False)) :
    wpAny (model X.prog X.w) X.A.in1 (call (.ref q) [u]) (fun y s' => (∃ t, y = .int n t) ∧ Inv X pn σ H s') (fun _ _ => False) s := by
  refine wpAny_call (PySem.W.method_call (J.hok q _ hq) (codeAny_mono (F X.A.in1 X.stack s H [.ref self, u] [.ref self, v] (fun y H' => y = .int n ∧ H' = H) (fun _ _ _ => False) hr.in1 ⟨J.env0.frames, J.env0.mod, J.env0.bs, J.env0.bsz, J.env0.funs, J.env0.frf, J.env0.hok, J.env0.bare⟩ (.cons rfl (.cons r .nil)) (hs _ ⟨rfl, rfl⟩)) fun r s' hq => ?_))
  cases r with
  | error e => exact False.elim hq
  | ok fl =>
    cases fl with
    | ret y =>
      have h2 : EP X pn σ (fun y H' => y = .int n ∧ H' = H) y s' := J.after hq
      obtain ⟨v', H', J', r', rfl, rfl⟩ := h2
      exact ⟨r', J'⟩
    | next => exact False.elim hq
    | brk => exact False.elim hq
    | cont => exact False.elim hq
def RmaxE (X : Cx) (pins : List (Addr × Obj)) (σ : L2.St) (Q : VK) (r : Result) (s' : Shared) : Prop := match r with
  | .ok (.ret v) => EP X pins σ Q v s'
  | .ok _ => False
  | .error e => X.xe e s'
theorem off_iter {s : Shared} {its : Array Value} {n : Nat} {l : Addr} (h : PlainL s.heap a its) (hi : s.heap.IsListIter I l n) : a ≠ I := by
  rintro rfl
  obtain ⟨o, m, e, c, _⟩ := h
  obtain ⟨o', e', c', _⟩ := hi
  rw [e] at e'
  cases e'
  rw [c] at c'
  exact absurd c' (by decide)
theorem max_loop (F : FnR X.prog X.w X.K X.mg X.base C8.CX0 k g sp) (hr : Room (k + 1) X.A) (hS : SqL X.K H a xs) (hq : H q = some (.met g self)) (hSI : S ≠ I)
    (hs : ∀ (i : Nat) (v : V), xs[i]? = some v → ∀ Q' : VK, Q' (.int (kf i)) H → sp [.ref self, v] H Q' (fun _ _ _ => False))
    (hQ : ∀ (i : Nat) (v : V), xs[i]? = some v → FstMax xs.length kf i → Q v H) :
    ∀ (r j i : Nat) (s : Shared) (vb : Value) (y : V) (tb : Tok) (c : Nat), xs.length - (j + 1) = r → j + 1 ≤ xs.length → Inv X pins σ H s → FpOk X pins H I → FpOk X pins H S →
      s.heap.get? S = some (seqObj "list" #[vb, .int (kf i) tb] c) → s.heap.IsListIter I a (j + 1) → xs[i]? = some y → RelV y vb → i ≤ j → (∀ j', j' ≤ j → kf i ≥ kf j' ∧ (j' < i → kf i > kf j')) →
      codeAny (model X.prog X.w) X.A (.builtin "max.loop" ⟨[.ref I, .ref q, .ref S], []⟩) (RmaxE X pins σ Q) s := by
  have hname : (toString "max" ++ toString ".loop" : String) = "max.loop" := by decide
  have hh : X.A.in1.handled = none := hr.hd
  intro r
  induction r with
  | zero =>
    intro j i s vb y tb c er hj J fI fS nS hit hy ry hij hbest
    have hin : j + 1 = xs.length := by omega
    obtain ⟨its, rv, pl, hz⟩ := J.list hS
    have hsz : its.toArray.size = xs.length := by rw [List.size_toArray, rv.length]
    have haI := off_iter pl hit
    have W := Walks.list (prog := X.prog) (w := X.w) (A := X.A.in1) hh I a haI its.toArray
    refine codeAny_builtin PySem.F.entry_max_loop ?_
    rw [Around.under_plainId PySem.F.plain_max_loop _]
    show wpAny _ X.A.in1 (seqItems? (.ref S) >>= _) _ _ _
    refine wpAny_bind (wpAny_seqItems nS rfl ?_)
    show wpAny _ X.A.in1 (tryCatch (pyNext (.ref I)) _ >>= _) _ _ _
    refine wpAny_bind (wpAny_tryCatch (W.done _ _ _ ⟨by rw [hsz, ← hin]; exact hit, pl.isList⟩ fun h' tk' hk' => ?_))
    have J1 : Inv X pins σ H { s with heap := h', toks := tk' } := J.turnedL (ch := [I]) hk' fun b hb => by rw [List.mem_singleton.mp hb]; exact fI
    have hS' := hk' S _ (by simpa using hSI) nS
    have s1 := Heap.SameBut.update h' S (Obj.mapSeq fun _ => (#[] : Array Value))
    show wpAny _ X.A.in1 (updateSeq S (fun _ => #[]) >>= _) _ _ _
    refine wpAny_bind ?_
    refine wpAny_updateSeq hS' rfl (wpAny_bind (wpAny_letGo (wpAny_pure ?_)))
    exact ⟨y, H, J1.turnedL (ch := [S]) (fun b o hb e => (s1.2 b (fun z => hb (List.mem_singleton.mpr z))).trans e) (fun b hb => by rw [List.mem_singleton.mp hb]; exact fS), ry, hQ i y hy fun j' hj' => hbest j' (by omega)⟩
  | succ r ih =>
    intro j i s vb y tb c er hj J fI fS nS hit hy ry hij hbest
    have hlt : j + 1 < xs.length := by omega
    obtain ⟨its, rv, pl, hz⟩ := J.list hS
    have hsz : its.toArray.size = xs.length := by rw [List.size_toArray, rv.length]
    have haI := off_iter pl hit
    have W := Walks.list (prog := X.prog) (w := X.w) (A := X.A.in1) hh I a haI its.toArray
    refine codeAny_builtin PySem.F.entry_max_loop ?_
    rw [Around.under_plainId PySem.F.plain_max_loop _]
    show wpAny _ X.A.in1 (seqItems? (.ref S) >>= _) _ _ _
    refine wpAny_bind (wpAny_seqItems nS rfl ?_)
    show wpAny _ X.A.in1 (tryCatch (pyNext (.ref I)) _ >>= _) _ _ _
    refine wpAny_bind (wpAny_tryCatch (W.item (j + 1) _ _ _ (by rw [hsz]; exact hlt) ⟨hit, pl.isList⟩ fun v h' tk' hP hst' hk' => ?_))
    have hv : its[j + 1]? = some v := by simpa using hP
    have hx : xs[j + 1]? = some xs[j + 1] := List.getElem?_eq_getElem hlt
    obtain ⟨v', hv', rxv⟩ := rv.get hx
    rw [hv] at hv'
    cases hv'
    obtain ⟨oI', hoI', hoc, hod⟩ := id hst'.1
    have J1 : Inv X pins σ H { s with heap := h', toks := tk' } := J.turnedL (ch := [I]) hk' fun b hb => by rw [List.mem_singleton.mp hb]; exact fI
    have nS1 := hk' S _ (by simpa using hSI) nS
    have J2 : Inv X (pins ++ [(S, seqObj "list" #[vb, .int (kf i) tb] c), (I, oI')]) σ H { s with heap := h', toks := tk' } := J1.pins_of fun p hp => by
      rcases List.mem_append.mp hp with hp | hp
      · exact J1.pin p (List.mem_append_right _ hp)
      · rcases List.mem_cons.mp hp with rfl | hp
        · exact ⟨nS1, fS.1, fS.2.1, fS.2.2.1, fun v e => by cases e⟩
        · rw [List.mem_singleton.mp hp]
          exact ⟨hoI', fI.1, fI.2.1, fI.2.2.1, fun v e => by rw [hod] at e; cases e⟩
    show wpAny _ X.A.in1 (tryCatch (holding [v] (call (.ref q) [v])) _ >>= _) _ _ _
    refine wpAny_bind (wpAny_tryCatch (wpAny_holding (wpAny_mono (key_turn F hr J2 hq rxv (hs (j + 1) _ hx)) (fun x s2 he => ?_) fun _ _ hF => hF.elim)))
    obtain ⟨⟨t2, rfl⟩, J3⟩ := he
    have nS2 := (J3.pin (S, seqObj "list" #[vb, .int (kf i) tb] c) (List.mem_append_right _ (List.mem_append_right _ (List.mem_cons_self ..)))).1
    have nI2 := (J3.pin (I, oI') (List.mem_append_right _ (List.mem_append_right _ (List.mem_cons_of_mem _ (List.mem_cons_self ..))))).1
    have J4 : Inv X pins σ H s2 := J3.unpinned
    have hit2 : s2.heap.IsListIter I a (j + 1 + 1) := ⟨oI', nI2, hoc, hod⟩
    show wpAny _ X.A.in1 (tryCatch (holding [v, .int (kf (j + 1)) t2] (richCompare .Gt (.int (kf (j + 1)) t2) (.int (kf i) tb) >>= _)) _ >>= _) _ _ _
    refine wpAny_bind (wpAny_tryCatch (wpAny_holding (wpAny_bind (CmpOf.ints_gt (prog := X.prog) (w := X.w) (A := X.A.in1) (P := fun i v => ∃ t, v = .int (kf i) t) kf (fun i v h => h) (j + 1) i _ _ _ _ _ ⟨t2, rfl⟩ ⟨tb, rfl⟩ ?_))))
    refine wpAny_bind (wpAny_holding (wpAny_truthy_bool ?_))
    refine wpAny_bind (wpAny_letGo (wpAny_pure ?_))
    by_cases hb' : kf (j + 1) > kf i
    · have s1 := Heap.SameBut.update s2.heap S (Obj.mapSeq fun _ => #[v, .int (kf (j + 1)) t2])
      obtain ⟨c2, hc2⟩ : ∃ c2, (s2.heap.update S (Obj.mapSeq fun _ => #[v, .int (kf (j + 1)) t2])).get? S = some (seqObj "list" #[v, .int (kf (j + 1)) t2] c2) := ⟨_, get?_update_seq nS2 fun _ => #[v, .int (kf (j + 1)) t2]⟩
      simp only [hb', decide_true, if_true]
      refine wpAny_bind ?_
      refine wpAny_updateSeq nS2 rfl (wpAny_bind (wpAny_letGo ?_))
      rw [hname]
      refine wpAny_pure ⟨plainId_quiet PySem.F.plain_max_loop _, ih (j + 1) (j + 1) _ v _ t2 c2 (by omega) hlt (J4.turnedL (ch := [S]) (fun b o hb e => (s1.2 b (fun z => hb (List.mem_singleton.mpr z))).trans e) (fun b hb => by rw [List.mem_singleton.mp hb]; exact fS)) fI fS hc2 ⟨oI', (s1.2 I hSI.symm).trans nI2, hoc, hod⟩ hx rxv (Nat.le_refl _) fun j' hj' => ?_⟩
      by_cases e : j' = j + 1
      · subst e
        exact ⟨by omega, fun _ => by omega⟩
      · have hb1 := hbest j' (by omega)
        have hb2 := hb1.1
        exact ⟨by omega, fun _ => by omega⟩
    · simp only [hb', decide_false, Bool.false_eq_true, if_false]
      refine wpAny_bind (wpAny_letGo ?_)
      rw [hname]
      refine wpAny_pure ⟨plainId_quiet PySem.F.plain_max_loop _, ih (j + 1) i _ vb y tb c (by omega) hlt J4 fI fS nS2 hit2 hy ry (by omega) fun j' hj' => ?_⟩
      by_cases e : j' = j + 1
      · subst e
        exact ⟨by omega, fun _ => by omega⟩
      · exact hbest j' (by omega)
theorem cr_maxK (F : FnR X.prog X.w X.K X.mg X.base C8.CX0 k g sp) (hr : Room (k + 1) X.A) : CallRK X (.builtin "max") [Str.ofString "key"] (rMaxK X.K g sp) := by
  intro pins s σ H vs zs us ws Q I0 r rz h
  obtain ⟨a, q, self, xs, kf, rfl, rfl, hS, h0, hq, hs, hQ⟩ := h
  obtain rfl := Vals.ref1 r
  obtain ⟨w1, rfl, e1⟩ := vals1 rz
  obtain rfl : w1 = Value.ref q := by cases e1; rfl
  have hname : (toString "max" ++ toString ".loop" : String) = "max.loop" := by decide
  have hh : X.A.in1.handled = none := hr.hd
  obtain ⟨its, rv, pl, hz⟩ := I0.list hS
  have hls := pl.isList
  have hsz : its.toArray.size = xs.length := by rw [List.size_toArray, rv.length]
  refine kmk_tree PySem.F.kind_max PySem.F.plain_max PySem.F.entry_max (kmk_max_key _ _) ?_
  show wpAny _ X.A.in1 (Builtin.Builtins.bindParams "max" ["key", "default"] 0 ⟨[], [(Str.ofString "key", .ref q)]⟩ >>= _) _ _ s
  refine wpAny_bind (wpAny_of_eq (show Builtin.Builtins.bindParams "max" ["key", "default"] 0 ⟨[], [(Str.ofString "key", .ref q)]⟩ = pure [some (.ref q), none] from rfl) ?_)
  refine wpAny_bind (wpAny_pure ?_)
  refine wpAny_bind (wpAny_pyIter_list hls ?_)
  refine wpAny_bind (wpAny_newList ?_ (Nat.zero_le _))
  rw [hname]
  have hS2 : (s.heap.push { cls := .type "list_iterator", data := .fields #[.ref a, .int 0 0] }).objs.size = s.heap.objs.size + 1 := size_push' ..
  have hSI : (s.heap.push { cls := .type "list_iterator", data := .fields #[.ref a, .int 0 0] }).objs.size ≠ s.heap.objs.size := by rw [hS2]; exact Nat.ne_of_gt (Nat.lt_succ_self _)
  refine wpAny_pure ⟨plainId_quiet PySem.F.plain_max_loop _, ?_⟩
  have gI : ((s.heap.push { cls := .type "list_iterator", data := .fields #[.ref a, .int 0 0] }).push (seqObj "list" #[] 0)).get? s.heap.objs.size = some { cls := .type "list_iterator", data := .fields #[.ref a, .int 0 0] } :=
    Heap.get?_push_of_some _ (Heap.get?_push_size _ rfl)
  have gS : ((s.heap.push { cls := .type "list_iterator", data := .fields #[.ref a, .int 0 0] }).push (seqObj "list" #[] 0)).get? (s.heap.push { cls := .type "list_iterator", data := .fields #[.ref a, .int 0 0] }).objs.size = some (seqObj "list" #[] 0) := Heap.get?_push_size _ rfl
  have fI : FpOk X pins H s.heap.objs.size := I0.fpOk (Nat.le_refl _) (I0.hok.fresh (Nat.le_refl _))
  have fS : FpOk X pins H (s.heap.push { cls := .type "list_iterator", data := .fields #[.ref a, .int 0 0] }).objs.size := I0.fpOk (by rw [hS2]; exact Nat.le_succ _) (I0.hok.fresh (by rw [hS2]; exact Nat.le_succ _))
  generalize (s.heap.push { cls := .type "list_iterator", data := .fields #[.ref a, .int 0 0] }).objs.size = S at gS hSI fS ⊢
  generalize hI : s.heap.objs.size = I at gI hSI fI ⊢
  have J0 : Inv X pins σ H { s with heap := (s.heap.push { cls := .type "list_iterator", data := .fields #[.ref a, .int 0 0] }).push (seqObj "list" #[] 0) } := I0.kept (t' := s.toks) fun b u e => Heap.get?_push_of_some _ (Heap.get?_push_of_some _ e)
  have pl2 : PlainL ((s.heap.push { cls := .type "list_iterator", data := .fields #[.ref a, .int 0 0] }).push (seqObj "list" #[] 0)) a its.toArray := pl.at fun o e => Heap.get?_push_of_some _ (Heap.get?_push_of_some _ e)
  have haI : a ≠ I := by rw [← hI]; exact Nat.ne_of_lt pl.lt
  have W := Walks.list (prog := X.prog) (w := X.w) (A := X.A.in1) hh I a haI its.toArray
  refine codeAny_builtin PySem.F.entry_max_loop ?_
  rw [Around.under_plainId PySem.F.plain_max_loop _]
  show wpAny _ X.A.in1 (seqItems? (.ref S) >>= _) _ _ _
  refine wpAny_bind (wpAny_seqItems gS rfl ?_)
  show wpAny _ X.A.in1 (tryCatch (pyNext (.ref I)) _ >>= _) _ _ _
  refine wpAny_bind (wpAny_tryCatch (W.item 0 _ _ _ (by rw [hsz]; exact h0) ⟨⟨_, gI, rfl, rfl⟩, pl2.isList⟩ fun v h' tk' hP hst' hk' => ?_))
  have hv : its[0]? = some v := by simpa using hP
  have hx : xs[0]? = some xs[0] := List.getElem?_eq_getElem h0
  obtain ⟨v', hv', rxv⟩ := rv.get hx
  rw [hv] at hv'
  cases hv'
  obtain ⟨oI', hoI', hoc, hod⟩ := id hst'.1
  have J1 : Inv X pins σ H { s with heap := h', toks := tk' } := Inv.turnedL (s := { s with heap := (s.heap.push { cls := .type "list_iterator", data := .fields #[.ref a, .int 0 0] }).push (seqObj "list" #[] 0) }) (h' := h') (t' := tk') (ch := [I]) J0 hk' fun b hb => by rw [List.mem_singleton.mp hb]; exact fI
  have nS1 := hk' S _ (by simpa using hSI) gS
  have J2 : Inv X (pins ++ [(S, seqObj "list" #[] 0), (I, oI')]) σ H { s with heap := h', toks := tk' } := J1.pins_of fun p hp => by
    rcases List.mem_append.mp hp with hp | hp
    · exact J1.pin p (List.mem_append_right _ hp)
    · rcases List.mem_cons.mp hp with rfl | hp
      · exact ⟨nS1, fS.1, fS.2.1, fS.2.2.1, fun v e => by cases e⟩
      · rw [List.mem_singleton.mp hp]
        exact ⟨hoI', fI.1, fI.2.1, fI.2.2.1, fun v e => by rw [hod] at e; cases e⟩
  show wpAny _ X.A.in1 (tryCatch (holding [v] (call (.ref q) [v])) _ >>= _) _ _ _
  refine wpAny_bind (wpAny_tryCatch (wpAny_holding (wpAny_mono (key_turn F hr J2 hq rxv (hs 0 _ hx)) (fun x s2 he => ?_) fun _ _ hF => hF.elim)))
  obtain ⟨⟨t2, rfl⟩, J3⟩ := he
  have nS2 := (J3.pin (S, seqObj "list" #[] 0) (List.mem_append_right _ (List.mem_append_right _ (List.mem_cons_self ..)))).1
  have nI2 := (J3.pin (I, oI') (List.mem_append_right _ (List.mem_append_right _ (List.mem_cons_of_mem _ (List.mem_cons_self ..))))).1
  have J4 : Inv X pins σ H s2 := J3.unpinned
  have s1 := Heap.SameBut.update s2.heap S (Obj.mapSeq fun _ => #[v, .int (kf 0) t2])
  obtain ⟨c2, hc2⟩ : ∃ c2, (s2.heap.update S (Obj.mapSeq fun _ => #[v, .int (kf 0) t2])).get? S = some (seqObj "list" #[v, .int (kf 0) t2] c2) := ⟨_, get?_update_seq nS2 fun _ => #[v, .int (kf 0) t2]⟩
  show wpAny _ X.A.in1 (updateSeq S (fun _ => #[v, .int (kf 0) t2]) >>= _) _ _ _
  refine wpAny_bind ?_
  refine wpAny_updateSeq nS2 rfl ?_
  rw [hname]
  refine wpAny_pure ⟨plainId_quiet PySem.F.plain_max_loop _, max_loop F hr hS hq hSI hs hQ _ 0 0 _ v _ t2 c2 rfl h0 (J4.turnedL (ch := [S]) (fun b o hb e => (s1.2 b (fun z => hb (List.mem_singleton.mpr z))).trans e) (fun b hb => by rw [List.mem_singleton.mp hb]; exact fS)) fI fS hc2 ⟨oI', (s1.2 I hSI.symm).trans nI2, hoc, hod⟩ hx rxv (Nat.le_refl _) fun j' hj' => ?_⟩
  have e : j' = 0 := by omega
  subst e
  exact ⟨by omega, fun h => absurd h (Nat.lt_irrefl _)⟩
end
end Wk
set_option Elab.async false
set_option linter.all false
set_option maxRecDepth 100000
set_option maxHeartbeats 4000000
/-! Wk: x in o by an own __contains__; x.m as a value. -/
namespace Wk
open PySem PySem.Spec PyProof.Rows L2
def rInOwn (C : Addr) (sp : Sp) : R2 := fun x y H Q => ∃ a dx fs, y = .ref a ∧ H a = some (.ins C dx fs) ∧ sp [.ref a, x] H (fun v H' => ∃ b, v = .bl b ∧ Q (.bl b) H') C8.E0
section
variable {X : Cx} {k j : Nat} {C : Addr} {sp : Sp}
theorem contains_own {pins : List (Addr × Obj)} {s : Shared} {σ : L2.St} {H : Hp} {x : V} {v : Value} {a dx : Addr} {fs : List (Str × V)} {R : Bool → Hp → Prop} {QQ : Bool → Shared → Prop} (c : C8.Met X.prog X.w X.K X.mg X.base k C "__contains__" sp []) (hr : Room j X.A) (hk : k ≤ j) (I : Inv X pins σ H s) (rx : RelV x v) (e : H a = some (.ins C dx fs))
    (q : sp [.ref a, x] H (fun v H' => ∃ b, v = .bl b ∧ R b H') C8.E0) (hQ : ∀ b H' s', Inv X pins σ H' s' → R b H' → QQ b s') : wpAny (model X.prog X.w) X.A (contains (.ref a) v) QQ X.xe s := by
  obtain ⟨f, fd, ps, ds, hc, hm, F, b, d⟩ := c.ex
  obtain ⟨mA, O, _, _, _, _⟩ := ins_get I.hok e
  obtain ⟨od, J, hl⟩ := O.look
  have ht : PySem.W.typeIn X.K (.ref f) = some (.type "function") := beq_iff_eq.mp hm.fn
  have sp1 : ∀ {Q' : Option Value → Shared → Prop} {s1 : Shared}, s1.heap = s.heap → Q' (some (.ref f)) s1 → wpAny (model X.prog X.w) X.A (specialOf (.ref a) "__contains__") Q' X.xe s1 := fun {Q' s1} eh h => by
    have X' : X.K.In s1.heap := by rw [eh]; exact I.kIn
    obtain ⟨ox, J'⟩ : ∃ ox, PySem.W.InstAt s1.heap a ox C od := ⟨_, by rw [eh]; exact J⟩
    unfold specialOf
    exact wpAny_bind (J'.type.here ((PySem.W.looks_findIn X' hm.at_).here h))
  unfold contains
  refine wpAny_holding ?_
  show wpAny _ _ (specialOf (.ref a) "__contains__" >>= _) _ _ _
  refine wpAny_bind (sp1 rfl ?_)
  rw [if_neg (by intro h; cases h)]
  try refine wpAny_bind (wpAny_pure ?_)
  unfold callSpecialUnlessNone?
  refine wpAny_bind ?_
  refine wpAny_bind (sp1 rfl ?_)
  refine wpAny_holding ?_
  refine wpAny_bind ((PySem.W.bind_fn I.kIn _ ht).here ?_)
  dsimp only
  rw [if_neg (by intro h; cases h)]
  try refine wpAny_bind (wpAny_pure ?_)
  refine wpAny_bind ?_
  refine wpAny_mono (run_fn F (hr.mono hk) b d C8.pass0 I (us := [.ref a, v]) (vs := [.ref a, x]) (.cons rfl (.cons rx .nil)) q) (fun u s' he => ?_) fun _ _ h => h
  obtain ⟨w, H', I', rw', bb, rfl, hR⟩ := he
  have eu : u = .bool bb := by cases rw'; rfl
  subst eu
  refine wpAny_pure ?_
  exact wpAny_truthy_bool (hQ bb H' s' I' hR)
theorem op_in_own (c : C8.Met X.prog X.w X.K X.mg X.base k C "__contains__" sp []) (hr : Room j X.A) (hk : k ≤ j) : OpR X (compareOp .In) (rInOwn C sp) := by
  intro pins s σ H x y v u Q I rx ry h
  obtain ⟨a, dx, fs, rfl, e, q⟩ := h
  cases ry
  show wpAny _ _ (contains (.ref a) v >>= _) _ _ _
  refine wpAny_bind (contains_own c hr hk I rx e q fun b H' s' I' hq => ?_)
  exact wpAny_pure ⟨.bl b, H', I', rfl, hq⟩
/-- o.m as a value -/
def tBnd (C : Addr) (m : Str) (g : Addr) (ta : TE) : TE := fun σ H Q => ta σ H fun x H1 => ∃ a dx fs, x = .ref a ∧ H1 a = some (.ins C dx fs) ∧ fs.lookup m = none ∧ ∀ p, H1 p = none → Q (.ref p) (upd H1 p (.met g a))
theorem pe_bnd {o : Expr} {m : Str} {g : Addr} {ta : TE} {pos : Pos} (c : Cls X.K C) (k : BMeth X.K C m g) (he : PE X o ta) (hab : attributeBase o m X.env (eval o X.env) = eval o X.env := by rfl) : PE X (.Attribute o m pos) (tBnd C m g ta) := by
  refine ⟨fun pins s σ H Q I h => ?_⟩
  refine attr_of hab (thn (he.run pins s σ H _ I h) fun u s1 ⟨x, H1, I1, rx, a, dx, fs, ex, ea, l, q⟩ => ?_)
  subst ex
  exact op_getbound I1 ea c k l rx q
end
end Wk
set_option Elab.async false
set_option linter.all false
set_option maxRecDepth 100000
set_option maxHeartbeats 4000000
/-! Wk: o.m(e, .., k = v): a method called by place and by name; methods with defaults of both kinds. -/
namespace Wk
open PySem PySem.Spec PyProof.Rows L2
structure MetP (P : Program) (w : World) (K : PySem.W.Frag) (mg : Str → Option Value) (base : Heap) (k : Nat) (C : Addr) (m : Str) (sp : Sp) (n : Nat) (ks : List Str) (gV : List V → List V → List V) : Prop where
  ex : ∃ (f : Addr) (fd : FuncData) (ps : List Str) (g : List Value → List Value → List Value), Cls K C ∧ Meth K C m f ∧ FnOk P w K mg base C8.CX0 k f fd ps sp ∧ KBn K fd ps (n + 1) ks g gV
def tMethP (C : Addr) (m : Str) (n nk : Nat) (sp : Sp) (gV : List V → List V → List V) (E : XK) (ta : TE) (t tk : TA) : TE := fun σ H Q => ta σ H fun x H1 => ∃ a dx fs, x = .ref a ∧ H1 a = some (.ins C dx fs) ∧ fs.lookup m = none ∧ t σ H1 fun vs H2 => tk σ H2 fun zs H3 => vs.length = n ∧ zs.length = nk ∧ sp (gV (x :: vs) zs) H3 Q E
section
variable {X : Cx} {k j n : Nat} {C : Addr} {m : Str} {sp : Sp} {ks : List Str} {gV : List V → List V → List V} {o e : Expr} {es : List Expr} {kws : List Keyword} {ta : TE} {t tk : TA} {pos apos : Pos}
theorem pe_mtP {pl : Sem Bool} (c : MetP X.prog X.w X.K X.mg X.base k C m sp n ks gV) (hr : Room j X.A) (hk : k ≤ j) (he : PE X o ta) (ha : PA X (e :: es) t) (hkw : PK X kws tk)
    (hall : (backToKw pos (keywordEach kws X.env)).all (·.1.isSome) = true := by rfl) (hks : (backToKw pos (keywordEach kws X.env)).filterMap (·.1) = ks := by rfl)
    (hst : starEach (e :: es) X.env = (false, eval e X.env) :: starEach es X.env := by rfl)
    (hpl : ((backTo pos (starEach (e :: es) X.env)).any (·.1) || (backToKw pos (keywordEach kws X.env)).any (·.1.isNone)) = false := by rfl)
    (ht : eval (.Call (.Attribute o m apos) (e :: es) kws pos) X.env = (do
      let ov ← eval o X.env
      standAt apos.atName
      let (f, first) ← holding [ov] (getMethod ov m pl)
      callWith pos f first (backTo pos (starEach (e :: es) X.env)) (backToKw pos (keywordEach kws X.env))) := by rfl) :
    PE X (.Call (.Attribute o m apos) (e :: es) kws pos) (tMethP C m n ks.length sp gV C8.E0 ta t tk) := by
  obtain ⟨f, fd, ps, g, hc, hm, F, b⟩ := c.ex
  refine ⟨fun pins s σ H Q I h => ?_⟩
  refine PySem.W.methodCall_KW (pl := pl) (thn (he.run pins s σ H _ I h) fun u s1 ⟨x, H1, I1, rx, a, dx, fs, ex, ea, l, q⟩ => ?_) ht
  subst ex
  obtain rfl : u = Value.ref a := rx
  refine getmeth_ok I1 ea hc hm l ?_
  refine PySem.W.callWith_KW (first := [.ref a]) (h₀ := X.base) I.ok.mod.kin hm.kp hall (thn (ha.run pos pins s1 σ H1 _ I1 q) fun us s2 ⟨vs, H2, I2, r, q2⟩ => ?_) hpl hst
  refine thn (hkw.run pos pins s2 σ H2 _ I2 q2) fun ws s3 ⟨zs, H3, I3, rz, l1, l2, q3⟩ => ⟨I3.kIn, ?_⟩
  rw [hks]
  exact run_fnN (us := .ref a :: us) (vs := .ref a :: vs) F (hr.mono hk) b C8.pass0 I3 (.cons rfl r) rz (congrArg (· + 1) l1) l2 q3
def KMethP (C : Addr) (m : Str) (n nk : Nat) (sp : Sp) (gV : List V → List V → List V) (E : XK) (t tk : TA) (σ : L2.St) (Q : VK) (x : V) (H1 : Hp) : Prop := ∃ a dx fs, x = .ref a ∧ H1 a = some (.ins C dx fs) ∧ fs.lookup m = none ∧ t σ H1 fun vs H2 => tk σ H2 fun zs H3 => vs.length = n ∧ zs.length = nk ∧ sp (gV (x :: vs) zs) H3 Q E
theorem w_methP {nk : Nat} {E : XK} {σ : L2.St} {H : Hp} {Q : VK} (h : ta σ H fun x H1 => KMethP C m n nk sp gV E t tk σ Q x H1) : tMethP C m n nk sp gV E ta t tk σ H Q := h
theorem g_methP {nk : Nat} {E : XK} {σ : L2.St} {H : Hp} {Q : VK} {L : List Cell} {a : Addr} {fs : List (Str × V)} (hh : Hd H L) (k : insC a C fs ∈ L) (l : fs.lookup m = none) (h : t σ H fun vs H2 => tk σ H2 fun zs H3 => vs.length = n ∧ zs.length = nk ∧ sp (gV (.ref a :: vs) zs) H3 Q E) : KMethP C m n nk sp gV E t tk σ Q (.ref a) H := let ⟨dx, e⟩ := hh.ins k; ⟨a, dx, fs, rfl, e, l, h⟩
end
end Wk
set_option Elab.async false
set_option linter.all false
set_option maxRecDepth 100000
set_option maxHeartbeats 4000000
/-! Wk: dicts over the ledger; tables whose values are lists. -/
namespace Wk
open PySem PySem.Spec PyProof.Rows L2
def KDI (x y : V) (H : Hp) (Q : VK) : Prop := ∃ a o, x = .ref a ∧ DGet H a y o ∧ Q (.bl o.isSome) H
def KDN (x y : V) (H : Hp) (Q : VK) : Prop := ∃ a o, x = .ref a ∧ DGet H a y o ∧ Q (.bl (!o.isSome)) H
def KDG (x y : V) (H : Hp) (Q : VK) : Prop := ∃ a v, x = .ref a ∧ DGet H a y (some v) ∧ Q v H
def KDU (D : Ends) (σ : L2.St) (x y v : V) (H : Hp) : Prop := ∃ a H4, x = .ref a ∧ DPut H a y v H4 ∧ D.nx σ H4
def KDX (D : Ends) (σ : L2.St) (x y : V) (H : Hp) : Prop := ∃ a kvs k, x = .ref a ∧ H a = some (.dK kvs) ∧ y = kV k ∧ (valV kvs k).isSome = true ∧ D.nx σ (upd H a (.dK (dropK kvs k)))
def KDP (t : TE) (σ : L2.St) (Q : VK) (x : V) (H1 : Hp) : Prop := ∃ a, x = .ref a ∧ IsD H1 a ∧ t σ H1 fun y H2 => ∃ kvs k v, H2 a = some (.dK kvs) ∧ y = kV k ∧ valV kvs k = some v ∧ Q v (upd H2 a (.dK (dropK kvs k)))
section
variable {σ : L2.St} {H : Hp} {Q : VK} {L M : List Cell} {p : Addr} {k : Key} {y v : V} {kvs : List (Key × V)} {ty td tv : TE} {D : Ends}
theorem w_din (h : ty σ H fun y H1 => td σ H1 fun x H2 => KDI x y H2 Q) : tDIn ty td σ H Q := h
theorem w_dnotin (h : ty σ H fun y H1 => td σ H1 fun x H2 => KDN x y H2 Q) : tDNotIn ty td σ H Q := h
theorem w_dget (h : td σ H fun x H1 => ty σ H1 fun y H2 => KDG x y H2 Q) : tDGet td ty σ H Q := h
theorem w_dput (h : tv σ H fun v H1 => td σ H1 fun x H2 => ty σ H2 fun y H3 => KDU D σ x y v H3) : sDPut td ty tv D σ H := h
theorem w_ddel (h : td σ H fun x H1 => ty σ H1 fun y H2 => KDX D σ x y H2) : sDDel td ty D σ H := h
theorem w_dpop (h : td σ H fun x H1 => KDP ty σ Q x H1) : tDPop1 td ty σ H Q := h
theorem g_din {b : Bool} (hh : Hd H L) (m : dctC p kvs ∈ L) (ey : y = kV k) (e : (valV kvs k).isSome = b) (q : Q (.bl b) H) : KDI (.ref p) y H Q := ⟨p, _, rfl, .inl ⟨kvs, k, .inl (hh.dct m), ey, rfl⟩, by rw [e]; exact q⟩
theorem g_dnotin {b : Bool} (hh : Hd H L) (m : dctC p kvs ∈ L) (ey : y = kV k) (e : (valV kvs k).isSome = b) (q : Q (.bl (!b)) H) : KDN (.ref p) y H Q := ⟨p, _, rfl, .inl ⟨kvs, k, .inl (hh.dct m), ey, rfl⟩, by rw [e]; exact q⟩
theorem g_dget (hh : Hd H L) (m : dctC p kvs ∈ L) (ey : y = kV k) (e : valV kvs k = some v) (q : Q v H) : KDG (.ref p) y H Q := ⟨p, v, rfl, .inl ⟨kvs, k, .inl (hh.dct m), ey, e.symm⟩, q⟩
theorem g_dput (hh : Hd H L) (m : Pk L (dctC p kvs) M) (ey : y = kV k) (hz : kvs.length < sizeLine) (q : ∀ H2, Hd H2 (dctC p (putK kvs k v) :: M) → D.nx σ H2) : KDU D σ (.ref p) y v H :=
  ⟨p, _, rfl, .inl ⟨kvs, k, (hh.pk m).dct (List.mem_cons_self ..), ey, hz, rfl⟩, q _ (hh.chgD m Chg.of)⟩
theorem g_ddel (hh : Hd H L) (m : Pk L (dctC p kvs) M) (ey : y = kV k) (e : (valV kvs k).isSome = true) (q : ∀ H2, Hd H2 (dctC p (dropK kvs k) :: M) → D.nx σ H2) : KDX D σ (.ref p) y H :=
  ⟨p, kvs, k, rfl, (hh.pk m).dct (List.mem_cons_self ..), ey, e, q _ (hh.chgD m Chg.of)⟩
theorem g_dpop {t : TE} (hh : Hd H L) (m : dctC p kvs ∈ L) (h : t σ H fun y H2 => ∃ kvs k v, H2 p = some (.dK kvs) ∧ y = kV k ∧ valV kvs k = some v ∧ Q v (upd H2 p (.dK (dropK kvs k)))) : KDP t σ Q (.ref p) H := ⟨p, rfl, .inl ⟨kvs, .inl (hh.dct m)⟩, h⟩
theorem g_listDK {kvs : List (Key × V)} (hh : Hd H L) (m : dctC p kvs ∈ L) (q : ∀ l H2, Hd H2 (lstC l (kvs.map fun kv => kV kv.1) :: L) → Q (.ref l) H2) : rListD [.ref p] H Q :=
  ⟨p, kvs, rfl, hh.dct m, fun l hl => q l _ (hh.newL (New.of hl))⟩
end
theorem tk_succ {α : Type} {xs : List α} {i : Nat} {x : α} (h : xs[i]? = some x) : xs.take (i + 1) = xs.take i ++ [x] := by
  rw [List.take_succ, h]; rfl
theorem pSnoc {α β : Type} {F : α → β → Prop} : ∀ {xs : List α} {ys : List β} {x : α} {y : β}, Paired F xs ys → F x y → Paired F (xs ++ [x]) (ys ++ [y])
  | _, _, _, _, .nil, h => .cons h .nil
  | _, _, _, _, .cons r t, h => .cons r (pSnoc t h)
/-! ### tables: a dict from numbers to lists of a told form -/
section
variable {ρ : Type} (rv : ρ → List V)
def kD (ks : List (Nat × Addr)) : List (Key × V) := ks.map fun p => ((.inl (p.1 : Int) : Key), V.ref p.2)
def rC (S : Nat → Option ρ) (ks : List (Nat × Addr)) : List Cell := ks.map fun p => lstC p.2 (((S p.1).map rv).getD [])
def upS (S : Nat → Option ρ) (k : Nat) (r : Option ρ) : Nat → Option ρ := fun j => if j = k then r else S j
theorem upS_same (S : Nat → Option ρ) (k : Nat) (r : Option ρ) : upS S k r k = r := if_pos rfl
theorem upS_ne {S : Nat → Option ρ} {j k : Nat} {r : Option ρ} (h : j ≠ k) : upS S k r j = S j := if_neg h
theorem upS_self {S : Nat → Option ρ} {k : Nat} {r : Option ρ} (h : S k = r) : upS S k r = S := funext fun j => by
  unfold upS
  by_cases e : j = k
  · rw [if_pos e, e, h]
  · rw [if_neg e]
theorem upS_upS {S : Nat → Option ρ} {k : Nat} {r r' : Option ρ} : upS (upS S k r) k r' = upS S k r' := funext fun j => by
  unfold upS
  by_cases e : j = k
  · rw [if_pos e, if_pos e]
  · rw [if_neg e, if_neg e, if_neg e]
/-- the dict at d holds the table S, its lists and itself are the block Z -/
def TabB (n : Nat) (d : Addr) (S : Nat → Option ρ) (Z : List Cell) : Prop := ∃ ks : List (Nat × Addr), (ks.map (·.1)).Nodup ∧ (∀ k, k ∈ ks.map (·.1) ↔ (S k).isSome = true) ∧ (∀ k, (S k).isSome = true → k < n) ∧ Z = dctC d (kD ks) :: rC rv S ks
theorem kD_get : ∀ {ks : List (Nat × Addr)} {k : Nat}, (ks.map (·.1)).Nodup → k ∈ ks.map (·.1) → ∃ a, (k, a) ∈ ks ∧ valV (kD ks) (.inl (k : Int)) = some (.ref a)
  | [], _, _, h => by cases h
  | (j, a) :: ks, k, nd, h => by
    by_cases e : j = k
    · subst e
      exact ⟨a, List.mem_cons_self .., valV_pos (p := ((.inl (j : Int) : Key), V.ref a)) (r := kD ks) rfl⟩
    · obtain ⟨b, h1, h2⟩ := kD_get (List.nodup_cons.mp nd).2 ((List.mem_cons.mp h).resolve_left (fun z => e z.symm))
      exact ⟨b, List.mem_cons_of_mem _ h1, (valV_neg (p := ((.inl (j : Int) : Key), V.ref a)) (r := kD ks) (fun z => e (Int.ofNat.inj (Sum.inl.inj z)))).trans h2⟩
theorem kD_none : ∀ {ks : List (Nat × Addr)} {k : Int}, (∀ j ∈ ks.map (·.1), ((j : Nat) : Int) ≠ k) → valV (kD ks) (.inl k) = none
  | [], _, _ => rfl
  | (j, a) :: ks, k, h => by
    refine (valV_neg (p := ((.inl (j : Int) : Key), V.ref a)) (r := kD ks) (fun z => h j (List.mem_cons_self ..) (Sum.inl.inj z))).trans ?_
    exact kD_none fun i hi => h i (List.mem_cons_of_mem _ hi)
theorem rC_perm {S : Nat → Option ρ} : ∀ {ks : List (Nat × Addr)} {k : Nat} {a : Addr}, (ks.map (·.1)).Nodup → (k, a) ∈ ks → (rC rv S ks).Perm (lstC a (((S k).map rv).getD []) :: rC rv S (ks.filter fun p => decide (p.1 ≠ k)))
  | [], _, _, _, h => by cases h
  | (j, b) :: ks, k, a, nd, h => by
    have n := List.nodup_cons.mp nd
    rcases List.mem_cons.mp h with e | h
    · cases e
      have ef : (((j, b) :: ks).filter fun p => decide (p.1 ≠ j)) = ks := by
        rw [List.filter_cons, if_neg (by simp)]
        refine List.filter_eq_self.mpr fun p hp => decide_eq_true fun z => n.1 (by rw [← z]; exact List.mem_map.mpr ⟨p, hp, rfl⟩)
      rw [ef]
      exact List.Perm.refl _
    · have hj : j ≠ k := fun e => n.1 (by rw [e]; exact List.mem_map_of_mem (f := (·.1)) h)
      rw [List.filter_cons, if_pos (decide_eq_true hj)]
      exact (List.Perm.cons _ (rC_perm (S := S) n.2 h)).trans (List.Perm.swap _ _ _)
theorem rC_upS {S : Nat → Option ρ} {k : Nat} {r : Option ρ} : ∀ {ks : List (Nat × Addr)}, rC rv (upS S k r) (ks.filter fun p => decide (p.1 ≠ k)) = rC rv S (ks.filter fun p => decide (p.1 ≠ k)) := fun {ks} => by
  unfold rC
  refine List.map_congr_left fun p hp => ?_
  have h := of_decide_eq_true (List.mem_filter.mp hp).2
  rw [upS_ne h]
variable {rv} {n : Nat} {d : Addr} {S : Nat → Option ρ} {Z : List Cell}
theorem TabB.dct (b : TabB rv n d S Z) : ∃ kv X, Z = dctC d kv :: X := by
  obtain ⟨ks, _, _, _, rfl⟩ := b
  exact ⟨_, _, rfl⟩
theorem TabB.lt {k : Nat} (b : TabB rv n d S Z) (h : (S k).isSome = true) : k < n := by
  obtain ⟨ks, _, _, h3, _⟩ := b
  exact h3 k h
/-- one row of it, to be read or changed -/
theorem TabB.open {k : Nat} {r : ρ} (b : TabB rv n d S Z) (h : S k = some r) : ∃ (ad : Addr) (kv : List (Key × V)) (X : List Cell), valV kv (.inl (k : Int)) = some (.ref ad) ∧ (∀ H R, Hd H (Z ++ R) ↔ Hd H (dctC d kv :: lstC ad (rv r) :: (X ++ R))) ∧
    ∀ r', ∃ Z', TabB rv n d (upS S k (some r')) Z' ∧ ∀ H R, Hd H (dctC d kv :: lstC ad (rv r') :: (X ++ R)) → Hd H (Z' ++ R) := by
  obtain ⟨ks, nd, h1, h2, rfl⟩ := b
  have hk : k ∈ ks.map (·.1) := (h1 k).mpr (by rw [h]; rfl)
  obtain ⟨ad, hm, hg⟩ := kD_get nd hk
  have p1 := rC_perm rv (S := S) nd hm
  rw [h] at p1
  refine ⟨ad, kD ks, rC rv S (ks.filter fun p => decide (p.1 ≠ k)), hg, fun H R => ?_, fun r' => ⟨_, ⟨ks, nd, fun j => ?_, fun j hj => ?_, rfl⟩, fun H R hh => ?_⟩⟩
  · have p2 : (dctC d (kD ks) :: rC rv S ks ++ R).Perm (dctC d (kD ks) :: lstC ad (rv r) :: (rC rv S (ks.filter fun p => decide (p.1 ≠ k)) ++ R)) := List.Perm.cons _ (p1.append_right R)
    exact ⟨fun hh => hh.perm p2, fun hh => hh.perm p2.symm⟩
  · by_cases e : j = k
    · subst e; rw [upS_same]; exact ⟨fun _ => rfl, fun _ => hk⟩
    · rw [upS_ne e]; exact h1 j
  · by_cases e : j = k
    · subst e; exact h2 j (by rw [h]; rfl)
    · rw [upS_ne e] at hj; exact h2 j hj
  · have p1 := rC_perm rv (S := upS S k (some r')) nd hm
    rw [upS_same, rC_upS] at p1
    have p2 : (dctC d (kD ks) :: rC rv (upS S k (some r')) ks ++ R).Perm (dctC d (kD ks) :: lstC ad (rv r') :: (rC rv S (ks.filter fun p => decide (p.1 ≠ k)) ++ R)) := List.Perm.cons _ (p1.append_right R)
    exact hh.perm p2.symm
theorem ks_has {ks : List (Nat × Addr)} (nd : (ks.map (·.1)).Nodup) (h1 : ∀ k, k ∈ ks.map (·.1) ↔ (S k).isSome = true) (h2 : ∀ k, (S k).isSome = true → k < n) : (kD ks).length ≤ n ∧ (∀ k : Nat, (valV (kD ks) (.inl (k : Int))).isSome = (S k).isSome) ∧ ∀ i : Int, i < 0 → (valV (kD ks) (.inl i)).isSome = false := by
  refine ⟨?_, fun k => ?_, fun i hi => ?_⟩
  · unfold kD
    rw [List.length_map, ← List.length_map (as := ks) (f := (·.1))]
    have go : ∀ (n : Nat) (xs : List Nat), xs.Nodup → (∀ a ∈ xs, a < n) → xs.length ≤ n := by
      intro n
      induction n with
      | zero => intro xs _ h; cases xs with
        | nil => exact Nat.le_refl _
        | cons x xs => exact absurd (h x (List.mem_cons_self ..)) (by omega)
      | succ n ih =>
        intro xs nd h
        by_cases hn : n ∈ xs
        · have h1 := ih (xs.erase n) (nd.erase n) fun a ha => by
            have h2 := h a (List.mem_of_mem_erase ha)
            have h3 := ((List.Nodup.mem_erase_iff nd).mp ha).1
            omega
          rw [List.length_erase_of_mem hn] at h1
          omega
        · have h1 := ih xs nd fun a ha => by
            have h2 := h a ha
            have h3 : a ≠ n := fun e => hn (e ▸ ha)
            omega
          omega
    exact go n _ nd fun a ha => h2 a ((h1 a).mp ha)
  · cases e : (S k).isSome with
    | true =>
      obtain ⟨a, _, h3⟩ := kD_get nd ((h1 k).mpr e)
      rw [h3]; rfl
    | false =>
      rw [kD_none fun j hj z => ?_]
      · rfl
      · have : j = k := Int.ofNat.inj z
        subst this
        rw [(h1 j).mp hj] at e
        cases e
  · rw [kD_none fun j hj z => by omega]
    rfl
/-- whether a number is a key -/
theorem TabB.has (b : TabB rv n d S Z) : ∃ (kv : List (Key × V)) (X : List Cell), Z = dctC d kv :: X ∧ kv.length ≤ n ∧ (∀ k : Nat, (valV kv (.inl (k : Int))).isSome = (S k).isSome) ∧ ∀ i : Int, i < 0 → (valV kv (.inl i)).isSome = false := by
  obtain ⟨ks, nd, h1, h2, rfl⟩ := b
  exact ⟨_, _, rfl, ks_has nd h1 h2⟩
/-- a new row -/
theorem TabB.add {k : Nat} (b : TabB rv n d S Z) (hk : k < n) (h : S k = none) : ∃ (kv : List (Key × V)) (X : List Cell), Z = dctC d kv :: X ∧ kv.length ≤ n ∧ (valV kv (.inl (k : Int))).isSome = false ∧ ∀ (ad : Addr) (r : ρ), ∃ Z', TabB rv n d (upS S k (some r)) Z' ∧ ∀ H R, Hd H (dctC d (putK kv (.inl (k : Int)) (.ref ad)) :: lstC ad (rv r) :: (X ++ R)) → Hd H (Z' ++ R) := by
  obtain ⟨ks, nd, h1, h2, rfl⟩ := b
  obtain ⟨hlen, hg, _⟩ := ks_has nd h1 h2
  have hn : k ∉ ks.map (·.1) := fun m => by
    have := (h1 k).mp m
    rw [h] at this
    cases this
  refine ⟨_, _, rfl, hlen, by rw [hg, h]; rfl, fun ad r => ⟨_, ⟨ks ++ [(k, ad)], ?_, fun j => ?_, fun j hj => ?_, rfl⟩, fun H R hh => ?_⟩⟩
  · rw [List.map_append, List.nodup_append]
    refine ⟨nd, by simp, fun x hx y hy e => ?_⟩
    have e3 : y = k := List.mem_singleton.mp hy
    exact hn (by rw [← e3, ← e]; exact hx)
  · rw [List.map_append, List.mem_append]
    by_cases e : j = k
    · subst e; rw [upS_same]; exact ⟨fun _ => rfl, fun _ => .inr (List.mem_singleton.mpr rfl)⟩
    · rw [upS_ne e]
      exact ⟨fun z => (h1 j).mp (z.resolve_right fun z => e (List.mem_singleton.mp z)), fun z => .inl ((h1 j).mpr z)⟩
  · by_cases e : j = k
    · subst e; exact hk
    · rw [upS_ne e] at hj; exact h2 j hj
  · have e1 : putK (kD ks) (.inl (k : Int)) (.ref ad) = kD (ks ++ [(k, ad)]) := by
      have e2 := hg k
      rw [h] at e2
      unfold putK
      rw [valV_any, e2]
      simp [kD]
    have e3 : rC rv (upS S k (some r)) (ks ++ [(k, ad)]) = rC rv S ks ++ [lstC ad (rv r)] := by
      unfold rC
      rw [List.map_append]
      congr 1
      · refine List.map_congr_left fun p hp => ?_
        rw [upS_ne fun z => hn (by rw [← z]; exact List.mem_map_of_mem hp)]
      · show [lstC ad (((upS S k (some r) k).map rv).getD [])] = _
        rw [upS_same]
        rfl
    rw [e1] at hh
    rw [e3]
    refine hh.perm (List.Perm.cons _ ?_)
    show (lstC ad (rv r) :: (rC rv S ks ++ R)).Perm ((rC rv S ks ++ [lstC ad (rv r)]) ++ R)
    rw [List.append_assoc]
    exact List.perm_middle.symm
/-- a row is dropped -/
theorem TabB.del {k : Nat} {r : ρ} (b : TabB rv n d S Z) (h : S k = some r) : ∃ (kv : List (Key × V)) (X : List Cell), Z = dctC d kv :: X ∧ (∃ ad, valV kv (.inl (k : Int)) = some (.ref ad)) ∧ ∃ Z', TabB rv n d (upS S k none) Z' ∧ ∀ H R, Hd H (dctC d (dropK kv (.inl (k : Int))) :: (X ++ R)) → Hd H (Z' ++ R) := by
  obtain ⟨ks, nd, h1, h2, rfl⟩ := b
  have hk : k ∈ ks.map (·.1) := (h1 k).mpr (by rw [h]; rfl)
  obtain ⟨ad, hm, hg⟩ := kD_get nd hk
  have p1 := rC_perm rv (S := S) nd hm
  refine ⟨_, _, rfl, ⟨ad, hg⟩, _, ⟨ks.filter fun p => decide (p.1 ≠ k), ?_, fun j => ?_, fun j hj => ?_, rfl⟩, fun H R hh => ?_⟩
  · exact nd.sublist (List.filter_sublist.map _)
  · by_cases e : j = k
    · subst e
      rw [upS_same]
      refine ⟨fun m => ?_, fun z => by cases z⟩
      obtain ⟨p, hp, e⟩ := List.mem_map.mp m
      exact absurd e (of_decide_eq_true (List.mem_filter.mp hp).2)
    · rw [upS_ne e, ← h1 j]
      constructor
      · intro m
        obtain ⟨p, hp, e⟩ := List.mem_map.mp m
        exact List.mem_map.mpr ⟨p, (List.mem_filter.mp hp).1, e⟩
      · intro m
        obtain ⟨p, hp, e2⟩ := List.mem_map.mp m
        exact List.mem_map.mpr ⟨p, List.mem_filter.mpr ⟨hp, decide_eq_true (by rw [e2]; exact e)⟩, e2⟩
  · by_cases e : j = k
    · subst e; rw [upS_same] at hj; cases hj
    · rw [upS_ne e] at hj; exact h2 j hj
  · have e1 : dropK (kD ks) (.inl (k : Int)) = kD (ks.filter fun p => decide (p.1 ≠ k)) := by
      unfold dropK kD
      rw [List.filter_map]
      congr 1
      refine List.filter_congr fun p _ => ?_
      exact decide_eq_decide.mpr ⟨fun h e => h (congrArg (fun k : Nat => (Sum.inl (k : Int) : Key)) e), fun h e => h (Int.ofNat.inj (Sum.inl.inj e))⟩
    rw [e1] at hh
    rw [rC_upS]
    have hh2 := hh.perm (List.Perm.cons _ (p1.append_right R))
    exact hh2.perm (List.Perm.swap _ _ _) |>.tail
/-- the keys, ascending -/
def keysS (n : Nat) (S : Nat → Option ρ) : List Nat := (List.range n).filter fun k => (S k).isSome
theorem keysS_mem {k : Nat} : k ∈ keysS n S ↔ k < n ∧ (S k).isSome = true := by
  unfold keysS
  rw [List.mem_filter, List.mem_range]
theorem keysS_asc : (keysS n S).Pairwise (· < ·) := (List.pairwise_lt_range (n := n)).sublist List.filter_sublist
theorem asc_one : ∀ {xs ys : List Nat}, xs.Pairwise (· < ·) → ys.Pairwise (· < ·) → (∀ a, a ∈ xs ↔ a ∈ ys) → xs = ys
  | [], [], _, _, _ => rfl
  | [], y :: ys, _, _, h => absurd ((h y).mpr (List.mem_cons_self ..)) (List.not_mem_nil)
  | x :: xs, [], _, _, h => absurd ((h x).mp (List.mem_cons_self ..)) (List.not_mem_nil)
  | x :: xs, y :: ys, h1, h2, h => by
    have p1 := List.pairwise_cons.mp h1
    have p2 := List.pairwise_cons.mp h2
    have e : x = y := by
      rcases List.mem_cons.mp ((h x).mp (List.mem_cons_self ..)) with z | z
      · exact z
      · rcases List.mem_cons.mp ((h y).mpr (List.mem_cons_self ..)) with z2 | z2
        · exact z2.symm
        · have a := p2.1 x z
          have b := p1.1 y z2
          omega
    subst e
    rw [asc_one p1.2 p2.2 fun a => ?_]
    constructor
    · intro ha
      rcases List.mem_cons.mp ((h a).mp (List.mem_cons_of_mem _ ha)) with z | z
      · have := p1.1 a ha; omega
      · exact z
    · intro ha
      rcases List.mem_cons.mp ((h a).mpr (List.mem_cons_of_mem _ ha)) with z | z
      · have := p2.1 a ha; omega
      · exact z
/-- whatever is a sorted list of the dict's keys is keysS -/
theorem TabB.sorted (b : TabB rv n d S Z) : ∃ (ks : List Nat) (kv : List (Key × V)) (X : List Cell), Z = dctC d kv :: X ∧ kv.map (·.1) = (ks.map fun k : Nat => (k : Int)).map Sum.inl ∧ (kv.map fun q => kV q.1) = (ks.map fun k : Nat => (k : Int)).map V.int ∧ ks.length ≤ n ∧
    ∀ ns : List Int, ns.Perm (ks.map fun k : Nat => (k : Int)) → ns.Pairwise (· ≤ ·) → ns = (keysS n S).map fun k : Nat => (k : Int) := by
  obtain ⟨ks, nd, h1, h2, rfl⟩ := b
  obtain ⟨hl, _, _⟩ := ks_has nd h1 h2
  refine ⟨ks.map (·.1), _, _, rfl, ?_, ?_, ?_, fun ns hp hs => ?_⟩
  · unfold kD
    rw [List.map_map, List.map_map, List.map_map]
    rfl
  · unfold kD
    rw [List.map_map, List.map_map, List.map_map]
    rfl
  · rw [List.length_map]
    unfold kD at hl
    rw [List.length_map] at hl
    exact hl
  · have hpos : ∀ x ∈ ns, ∃ k : Nat, x = (k : Int) := fun x hx => by
      obtain ⟨k, _, e⟩ := List.mem_map.mp (hp.mem_iff.mp hx)
      exact ⟨k, e.symm⟩
    have e : ns = (ns.map Int.toNat).map (fun k : Nat => (k : Int)) := by
      rw [List.map_map]
      refine (List.map_id ns).symm.trans (List.map_congr_left fun x hx => ?_)
      obtain ⟨k, rfl⟩ := hpos x hx
      rfl
    have hp2 : (ns.map Int.toNat).Perm (ks.map (·.1)) := by
      have := hp.map Int.toNat
      rw [List.map_map] at this
      have e2 : List.map (Int.toNat ∘ fun k : Nat => (k : Int)) (ks.map (·.1)) = ks.map (·.1) := (List.map_congr_left fun x _ => rfl).trans (List.map_id _)
      rw [e2] at this
      exact this
    have nd2 := hp2.nodup_iff.mpr nd
    rw [e]
    congr 1
    refine asc_one ?_ keysS_asc fun a => ?_
    · rw [e, List.pairwise_map] at hs
      exact (hs.and nd2).imp fun {a b} ⟨x, y⟩ => by omega
    · rw [hp2.mem_iff, keysS_mem, h1 a]
      exact ⟨fun z => ⟨h2 a z, z⟩, fun z => z.2⟩
theorem TabB.nil (n : Nat) (d : Addr) : TabB rv n d (fun _ => none) [dctC d []] := ⟨[], List.nodup_nil, fun k => ⟨fun h => (by cases h), fun h => (by cases h)⟩, fun k h => (by cases h), rfl⟩
end
end Wk
set_option Elab.async false
set_option linter.all false
set_option maxRecDepth 100000
set_option maxHeartbeats 4000000
/-! Wk: C.m(..), m a static method of an own class: by place, by keywords alone, where it may raise. -/
namespace Wk
open PySem PySem.Spec PyProof.Rows L2
/-- C.m is a static method: its record at p, its def at g -/
structure SMet (K : PySem.W.Frag) (C : Addr) (m : Str) (p g : Addr) : Prop where
  rd : PySem.W.readsIn K C (.type "type") = true
  ga : PySem.W.specialIn K (.ref C) "__getattribute__" = some (some (.builtin "type.__getattribute__"))
  at_ : PySem.W.findCls K (.ref C) (.type "type") m = some (.get (.builtin "staticmethod.__get__") (.ref p) .none (.ref C))
  rc : ∃ rest, PySem.W.recIn K p "staticmethod" = some (.ref g :: rest)
/-- such a def: by place (dvs fill up); by keywords alone; where it may raise -/
structure CalS (P : Program) (w : World) (K : PySem.W.Frag) (mg : Str → Option Value) (base : Heap) (k : Nat) (C : Addr) (m : Str) (sp : Sp) (dvs : List V) : Prop where
  ex : ∃ (p f : Addr) (fd : FuncData) (ps : List Str) (ds : List Value), SMet K C m p f ∧ FnOk P w K mg base C8.CX0 k f fd ps sp ∧ PySem.W.keepIn K (.ref f) = true ∧ Binds K fd ps ds ∧ Vals dvs ds
structure CalSK (P : Program) (w : World) (K : PySem.W.Frag) (mg : Str → Option Value) (base : Heap) (k : Nat) (C : Addr) (m : Str) (sp : Sp) (ks : List Str) (gV : List V → List V → List V) : Prop where
  ex : ∃ (p f : Addr) (fd : FuncData) (ps : List Str) (g : List Value → List Value → List Value), SMet K C m p f ∧ FnOk P w K mg base C8.CX0 k f fd ps sp ∧ PySem.W.keepIn K (.ref f) = true ∧ KBn K fd ps 0 ks g gV
structure CalSN (P : Program) (w : World) (K : PySem.W.Frag) (mg : Str → Option Value) (base : Heap) (k : Nat) (C : Addr) (m : Str) (sp : Sp) : Prop where
  ex : ∃ (p f : Addr) (fd : FuncData) (ps : List Str), SMet K C m p f ∧ FnOk P w K mg base (L2N.CX P w) k f fd ps sp ∧ PySem.W.keepIn K (.ref f) = true ∧ Binds K fd ps []
def tSt (C : Addr) (sp : Sp) (dvs : List V) (E : XK) (ta : TE) (t : TA) : TE := fun σ H Q => ta σ H fun x H1 => x = .ref C ∧ t σ H1 fun vs H2 => sp (vs ++ dvs) H2 Q E
def tStK (C : Addr) (n : Nat) (sp : Sp) (gV : List V → List V → List V) (E : XK) (ta : TE) (tk : TA) : TE := fun σ H Q => ta σ H fun x H1 => x = .ref C ∧ tk σ H1 fun zs H2 => zs.length = n ∧ sp (gV [] zs) H2 Q E
def tStS (C : Addr) (sp : Sp) (E : L2.St → XK) (ta : TE) (t : TA) : TE := fun σ H Q => ta σ H fun x H1 => x = .ref C ∧ t σ H1 fun vs H2 => sp vs H2 Q (E σ)
section
variable {X : Cx} {pins : List (Addr × Obj)} {σ : L2.St} {H : Hp} {s : Shared} {C p g : Addr} {m : Str} {A : Around} {E : Value → Shared → Prop}
theorem getst_ok {pl : Sem Bool} {Q : Value × List Value → Shared → Prop} (I : Inv X pins σ H s) (k : SMet X.K C m p g) (h : ∀ s', Inv X pins σ H s' → Q (.ref g, []) s') : wpAny (model X.prog X.w) A (getMethod (.ref C) m pl) Q E s := by
  obtain ⟨rest, hp⟩ := k.rc
  refine PySem.W.method_cls I.kIn k.ga ?_
  refine PySem.W.cls_bind I.kIn k.rd k.at_ ?_
  exact wpAny_call (PySem.W.sm_get (s := { s with toks := s.toks + 1 }) I.kIn hp (PySem.W.handed_on rfl (h _ (I.tok _))))
end
section
variable {X : Cx} {j k : Nat} {C : Addr} {m : Str} {sp : Sp} {dvs : List V} {ks : List Str} {gV : List V → List V → List V} {o e : Expr} {es : List Expr} {kws : List Keyword} {ta : TE} {t tk : TA} {pos apos : Pos} {W : WX}
theorem pe_st {pl : Sem Bool} (c : CalS X.prog X.w X.K X.mg X.base k C m sp dvs) (hr : Room j X.A) (hk : k ≤ j) (he : PE X o ta) (ha : PA X (e :: es) t)
    (hst : starEach (e :: es) X.env = (false, eval e X.env) :: starEach es X.env := by rfl) (hpl : (backTo pos (starEach es X.env)).any (·.1) = false := by rfl)
    (ht : eval (.Call (.Attribute o m apos) (e :: es) [] pos) X.env = (do
      let ov ← eval o X.env
      standAt apos.atName
      let (f, first) ← holding [ov] (getMethod ov m pl)
      callWith pos f first (backTo pos (starEach (e :: es) X.env)) (backToKw pos (keywordEach [] X.env))) := by rfl) :
    PE X (.Call (.Attribute o m apos) (e :: es) [] pos) (tSt C sp dvs C8.E0 ta t) := by
  obtain ⟨p, f, fd, ps, ds, sm, F, kp, b, d⟩ := c.ex
  refine ⟨fun pins s σ H Q I h => ?_⟩
  refine PySem.W.methodCall_KW (pl := pl) (thn (he.run pins s σ H _ I h) fun u s1 ⟨x, H1, I1, rx, ex, q⟩ => ?_) ht
  subst ex
  obtain rfl : u = Value.ref C := rx
  refine getst_ok I1 sm fun s2 I2 => ?_
  refine PySem.W.callWith_K (first := []) (h₀ := X.base) I.ok.mod.kin kp (thn (ha.run pos pins s2 σ H1 _ I2 q) fun us s3 ⟨vs, H2, I3, r, q2⟩ => ⟨I3.kIn, ?_⟩) hst hpl
  exact run_fn F (hr.mono hk) b d C8.pass0 I3 r q2
theorem pe_stK {pl : Sem Bool} (c : CalSK X.prog X.w X.K X.mg X.base k C m sp ks gV) (hr : Room j X.A) (hk : k ≤ j) (he : PE X o ta) (hkw : PK X kws tk)
    (hall : (backToKw pos (keywordEach kws X.env)).all (·.1.isSome) = true := by rfl) (hks : (backToKw pos (keywordEach kws X.env)).filterMap (·.1) = ks := by rfl)
    (hpl : ((backTo pos (starEach [] X.env)).any (·.1) || (backToKw pos (keywordEach kws X.env)).any (·.1.isNone)) = false := by rfl)
    (ht : eval (.Call (.Attribute o m apos) [] kws pos) X.env = (do
      let ov ← eval o X.env
      standAt apos.atName
      let (f, first) ← holding [ov] (getMethod ov m pl)
      callWith pos f first (backTo pos (starEach [] X.env)) (backToKw pos (keywordEach kws X.env))) := by rfl) :
    PE X (.Call (.Attribute o m apos) [] kws pos) (tStK C ks.length sp gV C8.E0 ta tk) := by
  obtain ⟨p, f, fd, ps, g, sm, F, kp, b⟩ := c.ex
  refine ⟨fun pins s σ H Q I h => ?_⟩
  refine PySem.W.methodCall_KW (pl := pl) (thn (he.run pins s σ H _ I h) fun u s1 ⟨x, H1, I1, rx, ex, q⟩ => ?_) ht
  subst ex
  obtain rfl : u = Value.ref C := rx
  refine getst_ok I1 sm fun s2 I2 => ?_
  refine PySem.W.callWith_KW0 (h₀ := X.base) I.ok.mod.kin kp hall ?_ hpl
  refine thn (hkw.run pos pins s2 σ H1 _ I2 q) fun ws s3 ⟨zs, H2, I3, rz, l2, q2⟩ => ⟨I3.kIn, ?_⟩
  rw [hks]
  exact run_fnN F (hr.mono hk) b C8.pass0 I3 .nil rz rfl l2 q2
theorem pe_stN {pl : Sem Bool} (c : CalSN X.prog X.w X.K X.mg X.base k C m sp) (hr : Room j X.A) (hk : k ≤ j) (tk : L2N.Takes X W) (he : PE X o ta) (ha : PA X (e :: es) t)
    (hst : starEach (e :: es) X.env = (false, eval e X.env) :: starEach es X.env := by rfl) (hpl : (backTo pos (starEach es X.env)).any (·.1) = false := by rfl)
    (ht : eval (.Call (.Attribute o m apos) (e :: es) [] pos) X.env = (do
      let ov ← eval o X.env
      standAt apos.atName
      let (f, first) ← holding [ov] (getMethod ov m pl)
      callWith pos f first (backTo pos (starEach (e :: es) X.env)) (backToKw pos (keywordEach [] X.env))) := by rfl) :
    PE X (.Call (.Attribute o m apos) (e :: es) [] pos) (tStS C sp (WE W) ta t) := by
  obtain ⟨p, f, fd, ps, sm, F, kp, b⟩ := c.ex
  refine ⟨fun pins s σ H Q I h => ?_⟩
  refine PySem.W.methodCall_KW (pl := pl) (thn (he.run pins s σ H _ I h) fun u s1 ⟨x, H1, I1, rx, ex, q⟩ => ?_) ht
  subst ex
  obtain rfl : u = Value.ref C := rx
  refine getst_ok I1 sm fun s2 I2 => ?_
  refine PySem.W.callWith_K (first := []) (h₀ := X.base) I.ok.mod.kin kp (thn (ha.run pos pins s2 σ H1 _ I2 q) fun us s3 ⟨vs, H2, I3, r, q2⟩ => ⟨I3.kIn, ?_⟩) hst hpl
  exact run_fnS F (hr.mono hk) b (fun pins H s e s' I x => L2N.passAt tk σ pins H s e s' I x) I3 r q2
end
/-! ### steps -/
def KSt (C : Addr) (sp : Sp) (dvs : List V) (E : XK) (t : TA) (σ : L2.St) (Q : VK) (x : V) (H1 : Hp) : Prop := x = .ref C ∧ t σ H1 fun vs H2 => sp (vs ++ dvs) H2 Q E
section
variable {C : Addr} {sp : Sp} {dvs : List V} {E : XK} {Es : L2.St → XK} {ta : TE} {t : TA} {σ : L2.St} {H : Hp} {Q : VK} {v : V} {n : Nat} {gV : List V → List V → List V}
theorem w_st (h : t σ H fun vs H2 => sp (vs ++ dvs) H2 Q E) : tSt C sp dvs E (tC (.ref C)) t σ H Q := ⟨rfl, h⟩
theorem w_stK (h : t σ H fun zs H2 => zs.length = n ∧ sp (gV [] zs) H2 Q E) : tStK C n sp gV E (tC (.ref C)) t σ H Q := ⟨rfl, h⟩
theorem w_stS (h : t σ H fun vs H2 => sp vs H2 Q (Es σ)) : tStS C sp Es (tC (.ref C)) t σ H Q := ⟨rfl, h⟩
end
end Wk
set_option Elab.async false
set_option linter.all false
set_option maxRecDepth 100000
set_option maxHeartbeats 4000000
/-! Wk: an own class whose __iter__ returns iter(a list): for x in o, list(o). -/
namespace Wk
open PySem PySem.Spec PyProof.Rows L2
/-- a def whose contract may speak of how large the heap is at the call -/
structure FnZ (P : Program) (w : World) (K : PySem.W.Frag) (mg : Str → Option Value) (base : Heap) (CX : CXT) (k : Nat) (f : Addr) (fd : FuncData) (ps : List Str) (sp : Nat → Sp) : Prop where
  len : ∀ n vs H Q E, sp n vs H Q E → vs.length = ps.length
  run : ∀ (A : Around) (outer : List Env) (s : Shared) (H : Hp) (args : Args) (us : List Value) (vs : List V) (Q : VK) (E : XK), Room k A → Env0 P w K mg base A outer s H → BindsTo s fd args (ps.zip us) → Vals vs us → sp s.heap.objs.size vs H Q E → codeAny (model P w) A (.call (.ref f) args) (CR CX outer P w H s Q E) s
theorem fn_ofZ {CX : CXT} {P : Program} {w : World} {K : PySem.W.Frag} {mg : Str → Option Value} {base : Heap} {k : Nat} {f : Addr} {name qual : Str} {params : Arguments} {body : List Stmt} {scope : Scope} {dV kV doc pm cdv ct oc : Value} {an od : Option Addr}
    {osl : Array (Option Value)} {N ps : List Str} {sp : Nat → Sp} (lk : K.lookup f = some ⟨oc, od, .func (PySem.W.fnOf name qual params body scope dV kV doc pm an cdv ct), osl⟩) (hcd : PySem.W.codeIn K cdv qual = true) (S : FnScope N ps scope)
    (len : ∀ n vs H Q E, sp n vs H Q E → vs.length = ps.length)
    (hbody : ∀ (A : Around) (outer : List Env) (s : Shared) (H : Hp) (vs : List V) (Q : VK) (E : XK), Room k (A.deeper (envOfC qual scope s.heap.objs.size f cdv)) → sp s.heap.objs.size vs H Q E →
      ∃ t, PSs (cxOf CX P w K mg base N qual scope f cdv A outer s H E) body t ∧ t { nx := fun _ H' => Q .non H', rt := Q } (L2.start N vs) H) :
    FnZ P w K mg base CX (k + 1) f (PySem.W.fnOf name qual params body scope dV kV doc pm an cdv ct) ps sp := by
  refine ⟨len, fun A outer s H args us vs Q E hr e0 hb r hsp => ?_⟩
  have hl := len _ _ _ _ _ hsp
  have KX : K.In s.heap := e0.mod.kin.keeps fun b o e => (e0.bs b o e).1
  have lim : s.heap.NoLimit := e0.mod.nolimit.keeps fun b o e => (e0.bs b o e).1
  have hkind : ∀ y ∈ ps.zip us, scope.names.lookup y.1 = some .local ∨ (scope.names.lookup y.1 = some .cell ∧ ((cellsFrom (s.heap.objs.size + 1) scope.names []).lookup y.1).isSome = true) := fun ⟨n, v⟩ hy => by
    rcases S.par n (List.of_mem_zip hy).1 with q | q
    · exact .inl q
    · exact .inr ⟨q, PySem.W.cellsFrom_some _ _ _ (.inl q)⟩
  refine codeAny_call_function hr.depth (KX _ _ lk) rfl S.co S.gen rfl (PySem.W.codeRec_of KX hcd) (hb _ _ _ _ ?_)
  refine wpAny_newFunctionEnv_cells S.kind hkind fun env he s1 x => ?_
  subst he
  refine ⟨lim.keeps x.toInCall.keep, codeAny_func ?_⟩
  obtain ⟨t, ht, hq⟩ := hbody A outer s H vs Q E (hr.deeper _) hsp
  have I : Inv (cxOf CX P w K mg base N qual scope f cdv A outer s H E) [] (L2.start N vs) H s1 := inv_start S hr.hd e0 hl r x
  refine wpAny_mono (ht.run [] s1 (L2.start N vs) H _ I hq) (fun fl s' hs => ?_) fun e s' hs => hs
  have fin : ∀ {σ' : L2.St} {H' : Hp} {v : V} {u : Value}, Inv (cxOf CX P w K mg base N qual scope f cdv A outer s H E) [] σ' H' s' → RelV v u → Q v H' → CE outer P w H s Q u s' :=
    fun {σ' H' v u} J rv q => ⟨v, H', J.os, J.bare, J.base, J.hok, rv, q⟩
  cases fl with
  | ret u =>
    obtain ⟨v, σ', H', J, rv, q⟩ := hs
    exact fin J rv q
  | next =>
    obtain ⟨σ', H', J, q⟩ := hs
    exact fin (v := V.non) (u := Value.none) J rfl q
  | brk =>
    obtain ⟨_, _, _, q⟩ := hs
    exact False.elim q
  | cont =>
    obtain ⟨_, _, _, q⟩ := hs
    exact False.elim q
/-- a class whose instances are iterated over by a def __iter__; without __len__ and __length_hint__ -/
structure ItrC (K : PySem.W.Frag) (C f : Addr) : Prop where
  it : PySem.W.findIn K (.ref C) "__iter__" = some (some (.ref f))
  itF : PySem.W.isFn K (.ref f) = true
  nolen : PySem.W.findIn K (.ref C) "__len__" = some none
  nohint : PySem.W.findIn K (.ref C) "__length_hint__" = some none
/-- __iter__ of o at a gives a new iterator over the list at l, where G a l H says which; no more -/
def spIt (G : Addr → Addr → Hp → Prop) : Nat → Sp := fun n vs H Q _ => ∃ a l, vs = [.ref a] ∧ G a l H ∧ ∀ it, H it = none → n ≤ it → Q (.ref it) (upd H it (ItO l it 0))
/-- such a class -/
structure ItrK (P : Program) (w : World) (K : PySem.W.Frag) (mg : Str → Option Value) (base : Heap) (k : Nat) (C : Addr) (G : Addr → Addr → Hp → Prop) : Prop where
  ex : ∃ (f : Addr) (fd : FuncData) (ps : List Str), ItrC K C f ∧ FnZ P w K mg base C8.CX0 k f fd ps (spIt G) ∧ Binds K fd ps []
section
variable {X : Cx} {pins : List (Addr × Obj)} {σ : L2.St} {H : Hp} {s : Shared} {k : Nat} {C a l dx : Addr} {fs : List (Str × V)} {G : Addr → Addr → Hp → Prop} {A1 : Around}
theorem run_iter {Q : Value → Shared → Prop} (c : ItrK X.prog X.w X.K X.mg X.base k C G) (sb : Sub X k A1) (I : Inv X pins σ H s) (ha : H a = some (.ins C dx fs)) (hG : G a l H)
    (q : ∀ it s', X.s_0.heap.objs.size ≤ it → H it = none → s'.heap.get? it = some (GNX.itObj l 0) → Inv X pins σ (upd H it (ItO l it 0)) s' → Q (.ref it) s') : wpAny (model X.prog X.w) A1 (pyIter (.ref a)) Q X.xe s := by
  obtain ⟨f, fd, ps, hc, F, b⟩ := c.ex
  obtain ⟨mA, J, _⟩ := ins_get I.hok ha
  obtain ⟨od, J, _⟩ := J.look
  obtain ⟨m, hF⟩ := I.fr
  refine PySem.W.owit_iter hF I.ok.mod.kin J hc.it hc.itF ?_
  have e0 : Env0 X.prog X.w X.K X.mg X.base A1 X.stack s H := by
    have e := I.env0
    exact ⟨by rw [sb.fr]; exact e.frames, e.mod, e.bs, e.bsz, e.funs, e.frf, e.hok, e.bare⟩
  have hsp : spIt G s.heap.objs.size [.ref a] H (fun v H' => ∃ it, v = .ref it ∧ H it = none ∧ s.heap.objs.size ≤ it ∧ H' = upd H it (ItO l it 0)) C8.E0 := ⟨a, l, rfl, hG, fun it h1 h2 => ⟨it, rfl, h1, h2, rfl⟩⟩
  have hl := F.len _ _ _ _ _ hsp
  have r2 : Vals [V.ref a] [Value.ref a] := .cons rfl .nil
  refine wpAny_call (codeAny_mono (F.run A1 X.stack s H ⟨[.ref a], []⟩ [.ref a] [.ref a] _ C8.E0 sb.room e0 (by
    have := b s [.ref a] I.kIn (by simpa using hl)
    simpa using this) r2 hsp) fun r s' hq => ?_)
  cases r with
  | error e => exact C8.pass0 (E := C8.E0) pins σ H s e s' I hq
  | ok fl =>
    cases fl with
    | next => exact False.elim hq
    | brk => exact False.elim hq
    | cont => exact False.elim hq
    | ret u =>
      obtain ⟨v, H', I', rv, it, ev, hn, hz, eH⟩ := I.after hq
      subst ev eH
      cases rv
      have ho := itO_get I' upd_same
      have hT : s'.TypeIs (.ref it) "list_iterator" := ⟨_, ho, rfl⟩
      unfold PySem.W.OwitIt
      refine wpAny_specialOf (name := Str.ofString "__next__") hT slot_listiter_next.lookup ?_
      exact q it s' (Nat.le_trans I.sz hz) hn ho I'
end
/-! ### for x in o -/
def iOwn (K : PySem.W.Frag) (C : Addr) (G : Addr → Addr → Hp → Prop) (te : TE) : TI := fun σ H R => te σ H fun x H1 => ∃ a l dx fs, x = .ref a ∧ H1 a = some (.ins C dx fs) ∧ G a l H1 ∧ R (Itl K l) H1
section
variable {X : Cx} {k j : Nat} {C : Addr} {G : Addr → Addr → Hp → Prop} {tg e : Expr} {te : TE}
theorem pi_own (c : ItrK X.prog X.w X.K X.mg X.base k C G) (hr : Room j X.A) (hk : k ≤ j) (he : PE X e te) : PI X tg e (iOwn X.K C G te) := by
  refine ⟨fun pins s σ H R I h => ?_⟩
  refine thn (he.run pins s σ H _ I h) fun u s1 ⟨x, H1, I1, rx, a, l, dx, fs, ex, ha, hG, q⟩ => ?_
  subst ex
  obtain rfl : u = Value.ref a := rx
  refine run_iter c ⟨hr.mono hk, rfl⟩ I1 ha hG fun it s2 hsz hn ho I2 => ?_
  have st : s2.heap.IsListIter it l 0 := ⟨_, ho, rfl, rfl⟩
  have hi : upd H1 it (ItO l it 0) it = some (ItO l it 0) := upd_same
  have hi' := hi
  unfold ItO at hi'
  have eH : ItX.dropH (upd H1 it (ItO l it 0)) it = H1 := ItX.dropH_upd hn
  refine ⟨it, [it], _, _, H1, rfl, eH ▸ ItX.inv_drop I2 hi', turn_list l it, st, fun b hb => ?_, q⟩
  have e : b = it := by simpa using hb
  rw [e]
  have z := ItX.inv_fp I2 hi hsz
  rw [eH] at z
  exact z
end
/-! ### list(o) -/
section
variable {X : Cx} {pins : List (Addr × Obj)} {σ : L2.St} {H : Hp} {s : Shared} {k : Nat} {C a l q it dx : Addr} {fs : List (Str × V)} {G : Addr → Addr → Hp → Prop} {A1 : Around} {xs : List V}
/-- what FpOk asks of the place alone -/
def ItOff (X : Cx) (pins : List (Addr × Obj)) (it : Addr) : Prop := it ≠ X.env.locals ∧ it ∉ X.fs ∧ (it ∈ X.ex ∨ X.s_0.heap.objs.size ≤ it) ∧ (∀ x c, X.env.cells.lookup x = some c → c ≠ it) ∧ ∀ p ∈ X.pn ++ pins, p.1 ≠ it
theorem lst_off {K : PySem.W.Frag} {v : HO} (h : SqL K H l xs) (hq : H q = none) : SqL K (upd H q v) l xs := h.upt (New.of (o := v) hq).keep
theorem iter_loop {Rs : Result → Shared → Prop} (hh : A1.in1.handled = none) (off : ItOff X pins it) (hi : H it = none) (hq : H q = none) (hne : it ≠ q) (hx : SqL X.K H l xs) (hz : xs.length < sizeLine) (hdone : ∀ s, Inv X pins σ (upd H q (.lst xs)) s → Rs (.ok (.ret .none)) s) :
    ∀ (m i : Nat) (s : Shared) (o : Obj), m = xs.length - i → i ≤ xs.length → Inv X ((it, o) :: pins) σ (upd H q (.lst (xs.take i))) s → o.cls = .type "list_iterator" → o.data = .fields #[.ref l, .int i 0] → codeAny (model X.prog X.w) A1 (.builtin "list.extend.loop" ⟨[.ref q, .ref it, .none], []⟩) Rs s := by
  intro m
  induction m with
  | zero =>
    intro i s o hm hi' I hc hd
    have ei : i = xs.length := by omega
    subst ei
    rw [List.take_length] at I
    obtain ⟨o1, o2, o3, o4, o5⟩ := off
    have ho := (I.pin (it, o) (List.mem_append_right _ List.mem_cons_self)).1
    have hit : upd H q (.lst xs) it = none := by rw [upd_ne hne]; exact hi
    have I0 : Inv X pins σ (upd H q (.lst xs)) s := I.pins_of fun p hp => I.pin p (List.mem_append_right _ (List.mem_cons_of_mem _ hp))
    obtain ⟨its, rv, p, _⟩ := I0.list (lst_off hx hq)
    refine codeAny_builtin PySem.F.entry_extend_loop ?_
    rw [Around.under_plainId PySem.F.plain_extend_loop _]
    show wpAny _ A1.in1 (pyNext (.ref it) >>= _) _ _ s
    have hl := rv.length
    refine wpAny_bind (wpAny_pyNext_list_end hh ⟨o, ho, hc, hd⟩ p.isList (by simp; omega) fun h' eb => ?_)
    exact wpAny_pure (hdone _ (I0.turned (t' := s.toks) (fun b ob hb e => eb b ob hb e) hit o1 o3 o4 o5))
  | succ m ih =>
    intro i s o hm hi' I hc hd
    have off' := off
    obtain ⟨o1, o2, o3, o4, o5⟩ := off
    have hlt : i < xs.length := by omega
    have ho := (I.pin (it, o) (List.mem_append_right _ List.mem_cons_self)).1
    have hit : upd H q (.lst (xs.take i)) it = none := by rw [upd_ne hne]; exact hi
    have I0 : Inv X pins σ (upd H q (.lst (xs.take i))) s := I.pins_of fun p hp => I.pin p (List.mem_append_right _ (List.mem_cons_of_mem _ hp))
    obtain ⟨its, rv, p, _⟩ := I0.list (lst_off hx hq)
    have hxi := List.getElem?_eq_getElem hlt
    obtain ⟨u, hu, ru⟩ := rv.get hxi
    refine codeAny_builtin PySem.F.entry_extend_loop ?_
    rw [Around.under_plainId PySem.F.plain_extend_loop _]
    show wpAny _ A1.in1 (pyNext (.ref it) >>= _) _ _ s
    refine wpAny_bind (wpAny_pyNext_list_item ⟨o, ho, hc, hd⟩ p.isList (x := u) (by simpa using hu) fun h' st' sb => ?_)
    have I1 : Inv X pins σ (upd H q (.lst (xs.take i))) { s with heap := h' } := I0.turned (t' := s.toks) (fun b ob hb e => (sb.2 b hb).trans e) hit o1 o3 o4 o5
    obtain ⟨o', e', c', d'⟩ := st'
    have I2 : Inv X ((it, o') :: pins) σ (upd H q (.lst (xs.take i))) { s with heap := h' } := I1.pins_of fun p hp => by
      rcases List.mem_cons.mp hp with e | e
      · subst e
        exact ⟨e', hit, o1, o2, fun v z => by rw [d'] at z; cases z⟩
      · exact I1.pin p (List.mem_append_right _ e)
    show wpAny _ A1.in1 (updateSeq q (·.push u) >>= _) _ _ _
    obtain ⟨z, its2, k2, r2, hl2, e2⟩ := I2.lstM upd_same
    refine wpAny_bind (wpAny_updateSeq e2 rfl (wpAny_pure ⟨plainId_quiet PySem.F.plain_extend_loop _, ?_⟩) (by rw [List.size_toArray, ← r2.length, List.length_take]; omega) (by show (its2.toArray.push u).size ≤ sizeLine + 1; rw [Array.size_push, List.size_toArray, ← r2.length, List.length_take]; omega))
    have hsz : (xs.take i ++ [xs[i]]).length ≤ sizeLine := by rw [List.length_append, List.length_take]; show min i xs.length + 1 ≤ sizeLine; omega
    have I3 := I2.lset (f := fun z => z.push u) (its' := its2 ++ [u]) (t' := s.toks) upd_same e2 (by simp) (r2.append (.cons ru .nil)) hsz
    rw [upd_upd, show xs.take i ++ [xs[i]] = xs.take (i + 1) by rw [List.take_succ, hxi]; rfl] at I3
    exact ih (i + 1) _ o' (by omega) hlt I3 c' d'
theorem itr_hint {M : Model} {A : Around} {E : Value → Shared → Prop} {Q : Bool → Shared → Prop} {K : PySem.W.Frag} {f : Addr} {ox : Obj} {od : Option Obj} (hc : ItrC K C f) (hK : K.In s.heap) (J : PySem.W.InstAt s.heap a ox C od) (h : Q true s) :
    wpAny M A (Builtin.List.listLengthHint (.ref a)) Q E s := by
  unfold Builtin.List.listLengthHint
  refine wpAny_bind (wpAny_bind (J.type.here ((PySem.W.looks_findIn hK hc.nolen).here ?_)))
  refine PySem.W.KFB.if_not rfl ?_
  refine PySem.W.KFB.if_not rfl ?_
  refine wpAny_bind (wpAny_bind (J.type.here ((PySem.W.looks_findIn hK hc.nohint).here ?_)))
  exact wpAny_pure h
end
/-- list(o) -/
def rLstOwn (K : PySem.W.Frag) (C : Addr) (G : Addr → Addr → Hp → Prop) : List V → Hp → VK → Prop := fun vs H Q => ∃ a l dx fs xs, vs = [.ref a] ∧ H a = some (.ins C dx fs) ∧ G a l H ∧ (∀ q, H q = none → G a l (upd H q (.lst []))) ∧ SqL K H l xs ∧ xs.length < sizeLine ∧ ∀ q, H q = none → Q (.ref q) (upd H q (.lst xs))
theorem upd_self' {H : Hp} {a : Addr} {o : HO} (h : H a = some o) : upd H a o = H := funext fun b => by
  by_cases hb : b = a
  · rw [hb, upd_same, h]
  · rw [upd_ne hb]
section
variable {X : Cx} {k : Nat} {C : Addr} {G : Addr → Addr → Hp → Prop}
theorem call_listO (c : ItrK X.prog X.w X.K X.mg X.base k C G) (hc : X.calm = true) (hr : Room (k + 2) X.A) : CallR X (.type "list") (rLstOwn X.K C G) := by
  intro pins s σ H vs us Q I rv h
  obtain ⟨a, l, dx, fs, xs, rfl, ha, hG, hGq, hx, hz, hq⟩ := h
  obtain ⟨u, rfl, ru⟩ := rv.one
  cases ru
  have sb : Sub X k X.A.in1.in1 := (Sub.in1 (Sub.in1 (⟨hr, rfl⟩ : Sub X (k + 2) X.A)))
  refine callType_codes (Q₁ := fun obj s₁ => obj = .ref s.heap.objs.size ∧ s₁ = { s with heap := s.heap.push { cls := .type "list", data := .seq #[] } }) PySem.F.called_list (PySem.F.typeCall_list_1 _) PySem.F.entry_list_init
    (code_list_new _ ⟨rfl, rfl⟩) fun obj s₁ h₁ => ?_
  obtain ⟨rfl, rfl⟩ := h₁
  have hS : (s.heap.push { cls := .type "list", data := .seq #[] }).get? s.heap.objs.size = some { cls := .type "list", data := .seq #[] } := Heap.get?_push_size _ rfl
  refine ⟨⟨_, hS, rfl⟩, PySem.F.args_list_init_2 _ _, ?_⟩
  have fr : H s.heap.objs.size = none := I.hok.fresh (Nat.le_refl _)
  have I1 : Inv X pins σ (upd H s.heap.objs.size (.lst [])) { s with heap := s.heap.push { cls := .type "list", data := .seq #[] } } := I.lnew (its := []) (t' := s.toks) .nil (Nat.zero_le _)
  show wpAny _ _ (do let old ← Builtin.List.listItems (.ref s.heap.objs.size); Builtin.List.listUpdate (.ref s.heap.objs.size) (fun _ => #[]); letGo old.toList.reverse; Builtin.List.listExtendWith (.ref s.heap.objs.size) (.ref a) .none) _ _ _
  refine wpAny_bind ?_
  unfold Builtin.List.listItems
  refine wpAny_bind (wpAny_seqItems hS rfl (wpAny_pure ?_))
  show wpAny _ _ (updateSeq s.heap.objs.size (fun _ => #[]) >>= fun _ => letGo (#[] : Array Value).toList.reverse >>= fun _ => Builtin.List.listExtendWith (.ref s.heap.objs.size) (.ref a) .none) _ _ _
  refine wpAny_bind (wpAny_updateSeq hS rfl ?_)
  have I2 := I1.lset (f := fun _ => #[]) (its := []) (its' := []) (ys := []) (t' := s.toks) upd_same hS rfl .nil (Nat.zero_le _)
  rw [upd_upd] at I2
  refine wpAny_bind (wpAny_letGo ?_)
  generalize hqe : s.heap.objs.size = q at *
  have ha2 : upd H q (.lst []) a = some (.ins C dx fs) := by rw [upd_ne (ne_of_none ha fr)]; exact ha
  have hne : q ≠ a := ne_of upd_same ha2 (fun z => nomatch z)
  obtain ⟨mA, J, _⟩ := ins_get I2.hok ha2
  obtain ⟨od, J, _⟩ := J.look
  unfold Builtin.List.listExtendWith
  refine wpAny_bind (J.type.here ?_)
  have h1 : Builtin.List.listSameRef (.ref q) (.ref a) = false := by simp [Builtin.List.listSameRef, hne]
  have h2 : (Value.ref C == Value.type "list") = false := rfl
  have h3 : (Value.ref C == Value.type "tuple") = false := rfl
  simp only [h1, h2, h3, Bool.or_false, Bool.false_eq_true, if_false]
  refine wpAny_bind (run_iter c sb I2 ha2 (hGq q fr) fun it s2 hsz hn ho I3 => ?_)
  have hit : it ≠ q := fun z => by rw [z, upd_same] at hn; cases hn
  have hi0 : H it = none := by rw [upd_ne hit] at hn; exact hn
  have hi' : upd (upd H q (.lst [])) it (ItO l it 0) it = some (ItO l it 0) := upd_same
  unfold ItO at hi'
  have fp := ItX.inv_fp I3 hi' hsz
  have I4 : Inv X pins σ (upd H q (.lst [])) s2 := by
    have z := ItX.inv_drop I3 hi'
    rw [show ItX.dropH (upd (upd H q (.lst [])) it (ItO l it 0)) it = upd H q (.lst []) from ItX.dropH_upd hn] at z
    exact z
  obtain ⟨_, o1, o2, o3, o4, o5⟩ := fp
  obtain ⟨f, fd, ps, hcI, F, b⟩ := c.ex
  obtain ⟨mA', J', _⟩ := ins_get I4.hok ha2
  obtain ⟨od', J', _⟩ := J'.look
  refine wpAny_bind (wpAny_holding (itr_hint hcI I4.kIn J' ?_))
  have pin : ∀ {s' : Shared}, s'.heap.get? it = some (GNX.itObj l 0) → Inv X pins σ (upd H q (.lst [])) s' → Inv X ((it, GNX.itObj l 0) :: pins) σ (upd H q (.lst (xs.take 0))) s' := fun ho' I' => by
    rw [List.take_zero]
    exact I'.pins_of fun p hp => by
      rcases List.mem_cons.mp hp with e | e
      · subst e
        exact ⟨ho', hn, o1, o2, fun v z => by cases z⟩
      · exact I'.pin p (List.mem_append_right _ e)
  have hh : X.A.in1.in1.handled = none := I.ok.hd hc
  have loop : ∀ {s' : Shared}, s'.heap.get? it = some (GNX.itObj l 0) → Inv X pins σ (upd H q (.lst [])) s' → codeAny (model X.prog X.w) X.A.in1 (.builtin "list.extend.loop" ⟨[.ref q, .ref it, .none], []⟩) (wants (fun r s₂ => r = .none ∧ EP X pins σ Q (.ref q) s₂) X.xe) s' := fun {s'} ho' I' =>
    iter_loop (A1 := X.A.in1) hh ⟨o1, o2, o3, o4, o5⟩ hi0 fr hit hx hz (fun s3 I5 => ⟨rfl, .ref q, _, I5, rfl, hq q fr⟩) _ 0 s' _ rfl (Nat.zero_le _) (pin ho' I') rfl rfl
  obtain ⟨z, its, k1, r3, hl3, e3⟩ := I4.lstM upd_same
  cases r3
  refine wpAny_ite_split (fun _ => ?_) (fun _ => wpAny_pure ⟨plainId_quiet PySem.F.plain_extend_loop _, loop ho I4⟩)
  refine wpAny_bind (wpAny_rule ?_)
  refine wpAny_bind ?_
  show wpAny _ _ (updateSeq q (·.push .none) >>= fun _ => updateSeq q (·.pop)) _ _ _
  have P4 : Inv X ((it, GNX.itObj l 0) :: pins) σ (upd H q (.lst [])) s2 := by
    have z := pin ho I4
    rw [List.take_zero] at z
    exact z
  refine wpAny_bind (wpAny_updateSeq e3 rfl ?_)
  have I5 := P4.lset (f := (·.push Value.none)) (its' := [Value.none]) (ys := [.non]) (t' := s2.toks) upd_same e3 (by simp) (.cons rfl .nil) (by rw [List.length_singleton, sizeLine_eq]; decide)
  obtain ⟨z4, its4, k4, r4, hl4, e4⟩ := I5.lstM upd_same
  obtain ⟨u4, rfl, ru4⟩ := r4.one
  refine wpAny_updateSeq e4 rfl ?_ (by show 1 ≤ sizeLine; rw [sizeLine_eq]; decide) (by show 0 ≤ sizeLine + 1; exact Nat.zero_le _)
  have I6 := I5.lset (f := (·.pop)) (its := [u4]) (its' := []) (ys := []) (t' := s2.toks) upd_same e4 (by rfl) .nil (Nat.zero_le _)
  rw [upd_upd, upd_upd] at I6
  have ho6 := (I6.pin (it, GNX.itObj l 0) (List.mem_append_right _ List.mem_cons_self)).1
  exact wpAny_pure ⟨plainId_quiet PySem.F.plain_extend_loop _, loop ho6 (I6.pins_of fun p hp => I6.pin p (List.mem_append_right _ (List.mem_cons_of_mem _ hp)))⟩
end
/-! ### steps -/
section
variable {K : PySem.W.Frag} {σ : L2.St} {H : Hp} {Q : VK} {L M : List Cell} {a p C : Addr} {xs : List V} {fs : List (Str × V)} {D : Ends} {f : Str} {n : Nat} {v i : Int}
theorem g_truL {R : Bool → Hp → Prop} (h : SqL K H p xs) (q : R (!xs.isEmpty) H) : ∃ k, TruV K (.ref p) H k ∧ R k H := ⟨_, .inl ⟨xs, h, rfl⟩, q⟩
theorem g_fldaug (hv : σ[n]? = some (some (.ref a))) (hh : Hd H L) (k : Pk L (insC a C fs) M) (c : Cls K C) (no : NoAttr K C f) (l : fs.lookup f = some (.int v)) (hl : fs.length < 1000) (q : ∀ H2, Hd H2 (insC a C (putF f (.int (v + i)) fs) :: M) → D.nx σ H2) :
    sFldAug K (tVar n) (tC (.int i)) rAdd f D σ H := by
  obtain ⟨dx, e⟩ := (hh.pk k).ins (List.mem_cons_self ..)
  exact ⟨_, hv, a, C, dx, fs, .int v, rfl, e, c, no, l, ⟨v, i, rfl, rfl, dx, fs, e, hl, q _ (hh.chgI k Chg.of)⟩⟩
end
end Wk
set_option Elab.async false
set_option linter.all false
set_option maxRecDepth 100000
set_option maxHeartbeats 4000000
/-! Wk: C(..), an own class whose __init__ may raise. -/
namespace Wk
open PySem PySem.Spec PyProof.Rows L2
structure MakN (P : Program) (w : World) (K : PySem.W.Frag) (mg : Str → Option Value) (base : Heap) (k : Nat) (x : Str) (C : Addr) (sp : Sp) : Prop where
  ex : ∃ (f : Addr) (fd : FuncData) (ps : List Str), Mk K C f ∧ FnOk P w K mg base (L2N.CX P w) k f fd ps sp ∧ mg x = some (.ref C) ∧ Binds K fd ps []
def tMakeS (C : Addr) (sp : Sp) (E : L2.St → XK) (t : TA) : TE := fun σ H Q => t σ H fun vs H1 => ∀ x dx, H1 x = none → H1 dx = none → dx ≠ x → sp (.ref x :: vs) (upd (upd H1 dx (.own x)) x (.ins C dx [])) (fun v H2 => v = .non ∧ Q (.ref x) H2) (E σ)
section
variable {X : Cx} {k j : Nat} {f C : Addr} {fd : FuncData} {ps : List Str} {sp : Sp} {x : Str} {p pos : Pos} {e : Expr} {es : List Expr} {t : TA} {W : WX}
theorem run_makeS {E : XK} {pins : List (Addr × Obj)} {σ : L2.St} {H : Hp} {s : Shared} {Q : VK} {us : List Value} {vs : List V} (M : Mk X.K C f) (F : FnOk X.prog X.w X.K X.mg X.base (L2N.CX X.prog X.w) k f fd ps sp) (hr : Room (k + 1) X.A) (hb : Binds X.K fd ps [])
    (hx : PassesAt (L2N.CX X.prog X.w) X σ E) (I : Inv X pins σ H s) (r : Vals vs us)
    (h : ∀ x dx, H x = none → H dx = none → dx ≠ x → sp (.ref x :: vs) (upd (upd H dx (.own x)) x (.ins C dx [])) (fun v H2 => v = .non ∧ Q (.ref x) H2) E) :
    wpAny (model X.prog X.w) X.A (call (.ref C) us) (EP X pins σ Q) X.xe s := by
  have hq := h (s.heap.objs.size + 1) s.heap.objs.size (I.hok.fresh (Nat.le_succ _)) (I.hok.fresh (Nat.le_refl _)) (Nat.ne_of_lt (Nat.lt_succ_self _))
  have I2 := Inv.made (C := C) I
  have r2 : Vals (V.ref (s.heap.objs.size + 1) :: vs) (Value.ref (s.heap.objs.size + 1) :: us) := .cons rfl r
  have hl : (Value.ref (s.heap.objs.size + 1) :: us ++ []).length = ps.length := by
    have e := r2.length
    rw [F.len _ _ _ _ hq] at e
    rw [List.append_nil]
    exact e.symm
  have b := hb _ (Value.ref (s.heap.objs.size + 1) :: us) I2.kIn hl
  rw [List.append_nil] at b
  refine wpAny_call (make_map (f := f) I.kIn M.makes M.init (beq_iff_eq.mp M.fn) (codeAny_mono (F.run _ X.stack _ _ ⟨Value.ref (s.heap.objs.size + 1) :: us, []⟩ (Value.ref (s.heap.objs.size + 1) :: us) _ _ E (hr.make C us [])
    (I2.env0.make C us []) b r2 hq) fun r s' hq' => ?_))
  cases r with
  | error e => exact hx pins _ _ e s' I2 hq'
  | ok fl =>
    cases fl with
    | ret u =>
      obtain ⟨v, H', I3, rv, ev, q3⟩ := I2.after hq'
      subst ev
      exact ⟨rv, ⟨V.ref (s.heap.objs.size + 1), H', I3, rfl, q3⟩⟩
    | next => exact False.elim hq'
    | brk => exact False.elim hq'
    | cont => exact False.elim hq'
theorem pe_mkN (c : MakN X.prog X.w X.K X.mg X.base k x C sp) (hr : Room j X.A) (hk : k + 1 ≤ j) (tk : L2N.Takes X W) (hg : Gl X x) (ha : PA X (e :: es) t)
    (hdb : (x == ("__debug__" : Str)) = false := by decide) (he : starEach (e :: es) X.env = (false, eval e X.env) :: starEach es X.env := by rfl) (hpl : (backTo pos (starEach es X.env)).any (·.1) = false := by rfl) :
    PE X (.Call (.Name x p) (e :: es) [] pos) (tMakeS C sp (WE W) t) := by
  obtain ⟨f, fd, ps, M, F, hm, b⟩ := c.ex
  refine ⟨fun pins s σ H Q I h => ?_⟩
  refine wpAny_Call_Name_kw (ld_glob I hg hm ?_ hdb)
  refine PySem.W.callWith_K (h₀ := X.base) I.ok.mod.kin M.kp (thn (ha.run pos pins s σ H _ I h) fun us s1 ⟨vs, H1, I1, r, q⟩ => ⟨I1.kIn, ?_⟩) he hpl
  exact run_makeS M F (hr.mono hk) b (L2N.passAt tk σ) I1 r q
end
end Wk
set_option Elab.async false
set_option linter.all false
set_option maxRecDepth 100000
set_option maxHeartbeats 4000000
/-! Wk: min(a, b, c) of three ints. -/
namespace Wk
open PySem PySem.Spec PyProof.Rows L2
def rMin3 : List V → Hp → VK → Prop := fun xs H Q => ∃ i j k, xs = [.int i, .int j, .int k] ∧ Q (.int (min i (min j k))) H
theorem b_min3 {X : Cx} (hc : X.calm = true) : CallR X (.builtin "min") rMin3 := by
  intro pins s σ H xs us Q I r h
  obtain ⟨i, j, k, rfl, q⟩ := h
  cases r with
  | cons r1 r =>
    cases r with
    | cons r2 r =>
      cases r with
      | cons r3 r =>
        cases r
        obtain ⟨t1, rfl⟩ := r1
        obtain ⟨t2, rfl⟩ := r2
        obtain ⟨t3, rfl⟩ := r3
        refine min_three_ints (I.ok.hd hc) fun h' tk kp => ⟨_, H, I.kept kp, ?_, q⟩
        by_cases h1 : j < i
        · rw [if_pos h1]
          by_cases h2 : k < j
          · rw [if_pos h2, show min i (min j k) = k by omega]; exact ⟨_, rfl⟩
          · rw [if_neg h2, show min i (min j k) = j by omega]; exact ⟨_, rfl⟩
        · rw [if_neg h1]
          by_cases h2 : k < i
          · rw [if_pos h2, show min i (min j k) = k by omega]; exact ⟨_, rfl⟩
          · rw [if_neg h2, show min i (min j k) = i by omega]; exact ⟨_, rfl⟩
theorem c_min3 {i j k : Int} {H : Hp} {Q : VK} (q : Q (.int (min i (min j k))) H) : CB rMin3 [.int i, .int j, .int k] H Q := ⟨i, j, k, rfl, q⟩
end Wk
set_option Elab.async false
set_option linter.all false
set_option maxRecDepth 100000
set_option maxHeartbeats 4000000
/-! Wk: d[k] += n over the ledger. -/
namespace Wk
open PySem PySem.Spec PyProof.Rows L2
def KDA (D : Ends) (σ : L2.St) (tv : TE) (rd : V → V → Hp → VK → Prop) (x y : V) (H : Hp) : Prop := ∃ a v, x = .ref a ∧ DGet H a y (some v) ∧ tv σ H fun y2 H3 => rd v y2 H3 fun z H4 => ∃ H5, DPut H4 a y z H5 ∧ D.nx σ H5
section
variable {σ : L2.St} {H : Hp} {L M : List Cell} {p : Addr} {k : Key} {y v : V} {kvs : List (Key × V)} {ty td tv : TE} {D : Ends} {rd : V → V → Hp → VK → Prop} {i : Int}
theorem w_daug (h : td σ H fun x H1 => ty σ H1 fun y H2 => KDA D σ tv rd x y H2) : sDAug td ty tv rd D σ H := h
theorem g_daug (hh : Hd H L) (m : Pk L (dctC p kvs) M) (ey : y = kV k) (hz : kvs.length < sizeLine) (e : valV kvs k = some (.int i)) (h : tv σ H fun y2 H3 => H3 = H ∧ ∃ j, y2 = .int j ∧ ∀ H2, Hd H2 (dctC p (putK kvs k (.int (i + j))) :: M) → D.nx σ H2)
    (mono : ∀ {Q1 Q2 : VK}, (∀ v H, Q1 v H → Q2 v H) → tv σ H Q1 → tv σ H Q2) : KDA D σ tv rAdd (.ref p) y H := by
  have m' := (hh.pk m).dct (List.mem_cons_self ..)
  refine ⟨p, .int i, rfl, .inl ⟨kvs, k, .inl m', ey, e.symm⟩, mono ?_ h⟩
  rintro v H3 ⟨rfl, j, rfl, q⟩
  exact ⟨i, j, rfl, rfl, _, .inl ⟨kvs, k, m', ey, hz, rfl⟩, q _ (hh.chgD m Chg.of)⟩
/-- d[k] += n, n a local number -/
theorem g_daugV {n : Nat} {j : Int} (hh : Hd H L) (m : Pk L (dctC p kvs) M) (ey : y = kV k) (hz : kvs.length < sizeLine) (e : valV kvs k = some (.int i)) (hn : σ[n]? = some (some (.int j))) (q : ∀ H2, Hd H2 (dctC p (putK kvs k (.int (i + j))) :: M) → D.nx σ H2) : KDA D σ (tVar n) rAdd (.ref p) y H := by
  have m' := (hh.pk m).dct (List.mem_cons_self ..)
  exact ⟨p, .int i, rfl, .inl ⟨kvs, k, .inl m', ey, e.symm⟩, w_var hn ⟨i, j, rfl, rfl, _, .inl ⟨kvs, k, m', ey, hz, rfl⟩, q _ (hh.chgD m Chg.of)⟩⟩
/-- d[k] += n, n a number told -/
theorem g_daugC {j : Int} (hh : Hd H L) (m : Pk L (dctC p kvs) M) (ey : y = kV k) (hz : kvs.length < sizeLine) (e : valV kvs k = some (.int i)) (q : ∀ H2, Hd H2 (dctC p (putK kvs k (.int (i + j))) :: M) → D.nx σ H2) : KDA D σ (tC (.int j)) rAdd (.ref p) y H := by
  have m' := (hh.pk m).dct (List.mem_cons_self ..)
  exact ⟨p, .int i, rfl, .inl ⟨kvs, k, .inl m', ey, e.symm⟩, i, j, rfl, rfl, _, .inl ⟨kvs, k, m', ey, hz, rfl⟩, q _ (hh.chgD m Chg.of)⟩
/-- d[k] += n in general: the value is walked, then the cell is changed -/
theorem g_daugT (hh : Hd H L) (m : Pk L (dctC p kvs) M) (ey : y = kV k) (e : valV kvs k = some (.int i)) (h : tv σ H fun y2 H3 => rAdd (.int i) y2 H3 fun z H4 => ∃ H5, DPut H4 p y z H5 ∧ D.nx σ H5) : KDA D σ tv rAdd (.ref p) y H :=
  ⟨p, .int i, rfl, .inl ⟨kvs, k, .inl ((hh.pk m).dct (List.mem_cons_self ..)), ey, e.symm⟩, h⟩
theorem g_daugE {z : V} (hh : Hd H L) (m : Pk L (dctC p kvs) M) (ey : y = kV k) (hz : kvs.length < sizeLine) (q : ∀ H2, Hd H2 (dctC p (putK kvs k z) :: M) → D.nx σ H2) : ∃ H5, DPut H p y z H5 ∧ D.nx σ H5 :=
  ⟨_, .inl ⟨kvs, k, (hh.pk m).dct (List.mem_cons_self ..), ey, hz, rfl⟩, q _ (hh.chgD m Chg.of)⟩
end
end Wk
set_option Elab.async false
set_option linter.all false
set_option maxRecDepth 100000
set_option maxHeartbeats 4000000
/-! Wk: loops and comprehensions over lists and over enumerate of lists, with any targets. -/
namespace Wk
open PySem PySem.Spec PyProof.Rows L2
def KForE (K : PySem.W.Frag) (g : TG) (tb : TS) (D : Ends) (σ : L2.St) (vs : List V) (H : Hp) : Prop := ∃ a xs, vs = [.ref a] ∧ SqL K H a xs ∧ KFor (Ite K a) g tb D σ H
section
variable {K : PySem.W.Frag} {σ : L2.St} {H : Hp} {Q : VK} {L : List Cell} {te : TE} {ta : TA} {tt : TT} {tb : TS} {D : Ends} {g : TG} {us : List Nat} {a : Addr} {xs : List V}
theorem w_forE (h : ta σ H fun vs H1 => KForE K g tb D σ vs H1) : tFor (iEnum K ta) g tb D σ H := h
theorem l_enumG (h : SqL K H a xs) (Pv : Nat → L2.St → Hp → Prop) (h0 : Pv 0 σ H) (hl : ∀ i σ H, i ≤ xs.length → Pv i σ H → SqL K H a xs)
    (hs : ∀ (i : Nat) (y : V) (T : Addr) (σ : L2.St) (H : Hp), xs[i]? = some y → Pv i σ H → H T = none → g (.ref T) σ (upd H T (.tup [.int (i : Nat), y])) fun σ2 H2 => tb { D with nx := Pv (i + 1), ct := Pv (i + 1), bk := D.nx } σ2 H2)
    (hd : ∀ σ H, Pv xs.length σ H → D.nx σ H) : KForE K g tb D σ [.ref a] H := by
  refine ⟨a, xs, rfl, h, fun i m σ H => m = xs.length - i ∧ i ≤ xs.length ∧ Pv i σ H, ⟨xs.length, rfl, Nat.zero_le _, h0⟩, ?_⟩
  rintro i m σ H ⟨rfl, hi, p⟩
  have qy := hl i σ H hi p
  by_cases hlt : i < xs.length
  · refine .inr ⟨⟨xs, xs[i], qy, List.getElem?_eq_getElem hlt⟩, Pv (i + 1), fun σ' H' p' => ⟨xs.length - (i + 1), by omega, rfl, hlt, p'⟩, fun v H' y => ?_⟩
    obtain ⟨T, y', rfl, hT, rfl, f2⟩ := y
    exact hs i y' T σ H (f2 xs qy) p hT
  · have e : i = xs.length := by omega
    subst e
    exact .inl ⟨⟨xs, qy, Nat.le_refl _⟩, hd σ H p⟩
theorem l_listG (h : SqL K H a xs) (Pv : Nat → L2.St → Hp → Prop) (h0 : Pv 0 σ H) (hl : ∀ i σ H, i ≤ xs.length → Pv i σ H → SqL K H a xs)
    (hs : ∀ i y σ H, xs[i]? = some y → Pv i σ H → g y σ H fun σ2 H2 => tb { D with nx := Pv (i + 1), ct := Pv (i + 1), bk := D.nx } σ2 H2) (hd : ∀ σ H, Pv xs.length σ H → D.nx σ H) : KForL K g tb D σ (.ref a) H :=
  ⟨a, rfl, ⟨xs, h⟩, for_list (K := K) (a := a) (xs := xs) Pv h0 hl hs hd⟩
theorem lc_EG (h : SqL K H a xs) (Pv : Nat → Addr → Hp → Prop) (h0 : ∀ D H1, New H H1 D (.lst []) → Pv 0 D H1) (hl : ∀ i D H, i ≤ xs.length → Pv i D H → SqL K H a xs)
    (hs : ∀ (i : Nat) x T D H, xs[i]? = some x → Pv i D H → H T = none → g (.ref T) (wipe σ us) (upd H T (.tup [.int (i : Nat), x])) fun σ2 H2 => wipe σ2 us = wipe σ us ∧ tt σ2 H2 fun b H3 => if b = true then te σ2 H3 (KApp D (Pv (i + 1) D)) else Pv (i + 1) D H3)
    (hd : ∀ D H, Pv xs.length D H → Q (.ref D) H) : KLcE K g tt te us σ Q [.ref a] H := by
  refine ⟨a, xs, rfl, h, fun D hD => ?_⟩
  refine lc_it walk_enum (fun i H => Pv i D H) (h0 D _ (New.of hD)) (fun i H hi p => hl i D H hi p) (fun i x H H' hi p y => ?_) fun H p => hd D H p
  obtain ⟨T, u, v, rfl, hT, rfl, hu, hv⟩ := y
  cases hu
  exact hs i v T D H hv p hT
theorem lc_LG (h : SqL K H a xs) (Pv : Nat → Addr → Hp → Prop) (h0 : ∀ D H1, New H H1 D (.lst []) → Pv 0 D H1) (hl : ∀ i D H, i ≤ xs.length → Pv i D H → SqL K H a xs)
    (hs : ∀ (i : Nat) x D H, xs[i]? = some x → Pv i D H → g x (wipe σ us) H fun σ2 H2 => wipe σ2 us = wipe σ us ∧ tt σ2 H2 fun b H3 => if b = true then te σ2 H3 (KApp D (Pv (i + 1) D)) else Pv (i + 1) D H3)
    (hd : ∀ D H, Pv xs.length D H → Q (.ref D) H) : KLcL K g tt te us σ Q (.ref a) H := by
  refine ⟨a, rfl, ⟨xs, h⟩, fun D hD => ?_⟩
  refine lc_it walk_list (fun i H => Pv i D H) (h0 D _ (New.of hD)) (fun i H hi p => hl i D H hi p) (fun i x H H' hi p y => ?_) fun H p => hd D H p
  obtain ⟨rfl, hx⟩ := y
  exact hs i x D _ hx p
theorem g_lcEG (hh : Hd H L) (h : SqL K H a xs) (Pv : Nat → Addr → Hp → Prop) (h0 : ∀ D H1, Hd H1 (lstC D [] :: L) → Pv 0 D H1) (hl : ∀ i D H, i ≤ xs.length → Pv i D H → SqL K H a xs)
    (hs : ∀ (i : Nat) x T D H, xs[i]? = some x → Pv i D H → H T = none → g (.ref T) (wipe σ us) (upd H T (.tup [.int (i : Nat), x])) fun σ2 H2 => wipe σ2 us = wipe σ us ∧ tt σ2 H2 fun b H3 => if b = true then te σ2 H3 (KApp D (Pv (i + 1) D)) else Pv (i + 1) D H3)
    (hd : ∀ D H, Pv xs.length D H → Q (.ref D) H) : KLcE K g tt te us σ Q [.ref a] H := lc_EG h Pv (fun D H1 nn => h0 D H1 (hh.newL nn)) hl hs hd
theorem g_lcLG (hh : Hd H L) (h : SqL K H a xs) (Pv : Nat → Addr → Hp → Prop) (h0 : ∀ D H1, Hd H1 (lstC D [] :: L) → Pv 0 D H1) (hl : ∀ i D H, i ≤ xs.length → Pv i D H → SqL K H a xs)
    (hs : ∀ (i : Nat) x D H, xs[i]? = some x → Pv i D H → g x (wipe σ us) H fun σ2 H2 => wipe σ2 us = wipe σ us ∧ tt σ2 H2 fun b H3 => if b = true then te σ2 H3 (KApp D (Pv (i + 1) D)) else Pv (i + 1) D H3)
    (hd : ∀ D H, Pv xs.length D H → Q (.ref D) H) : KLcL K g tt te us σ Q (.ref a) H := lc_LG h Pv (fun D H1 nn => h0 D H1 (hh.newL nn)) hl hs hd
end
end Wk
set_option Elab.async false
set_option linter.all false
set_option maxRecDepth 100000
set_option maxHeartbeats 4000000
/-! Wk: o[i] and o[i] = v by an own __getitem__, __setitem__. -/
namespace Wk
open PySem PySem.Spec PyProof.Rows L2
section
variable {X : Cx} {CX : CXT} {k j : Nat} {C : Addr} {sp : Sp} {f : Addr} {fd : FuncData} {ps : List Str} {dvs : List V} {ds : List Value} {E : XK} {pos : Pos}
/-- the callee runs, one deeper -/
theorem run_fn1 {pins : List (Addr × Obj)} {σ : L2.St} {H : Hp} {s : Shared} {Q : VK} {us : List Value} {vs : List V} (F : FnOk X.prog X.w X.K X.mg X.base CX k f fd ps sp) (hr : Room (k + 1) X.A) (hb : Binds X.K fd ps ds) (hd : Vals dvs ds) (hx : Passes CX X E)
    (I : Inv X pins σ H s) (r : Vals vs us) (h : sp (vs ++ dvs) H Q E) : wpAny (model X.prog X.w) X.A.in1 (call (.ref f) us) (EP X pins σ Q) X.xe s := by
  have r2 : Vals (vs ++ dvs) (us ++ ds) := r.append hd
  have hl : (us ++ ds).length = ps.length := by rw [← r2.length]; exact F.len _ _ _ _ h
  refine wpAny_call (codeAny_mono (F.run X.A.in1 X.stack s H ⟨us, []⟩ (us ++ ds) (vs ++ dvs) Q E hr.in1 I.env0.in1 (hb s us I.kIn hl) r2 h) fun r s' hq => ?_)
  cases r with
  | error e => exact hx pins σ H s e s' I hq
  | ok fl =>
    cases fl with
    | ret u => exact I.after hq
    | next => exact False.elim hq
    | brk => exact False.elim hq
    | cont => exact False.elim hq
theorem fnIn_of {K : PySem.W.Frag} {x qual : Str} {st : Stmt} {f : Addr} {fd : FuncData} (d : DefM K x qual st dvs f fd) : PySem.W.fnIn K f = true := by
  have F : FunD K x qual (defArgs st) (defBody st) (defScope st) dvs [] f fd := d
  obtain ⟨oc, od, dV, kV, doc, pm, an, cdv, ct, osl, rfl, lk, _⟩ := F.ex
  unfold PySem.W.fnIn
  rw [lk]
theorem MetAt.fnIn {K : PySem.W.Frag} {x qual : Str} {st : Stmt} (d : MetAt K C x qual st) : ∀ f, Meth K C x f → PySem.W.fnIn K f = true := fun f m => by
  obtain ⟨g, fd, D, _, m2⟩ := d
  have e := m2.at_.symm.trans m.at_
  cases e
  exact fnIn_of D
/-- o[i], by an own __getitem__ -/
def rIxOwn (C : Addr) (sp : Sp) (E : XK) : R2 := fun x y H Q => ∃ a dx fs, x = .ref a ∧ H a = some (.ins C dx fs) ∧ sp [.ref a, y] H Q E
theorem tail_own {value slice : Expr} {pins : List (Addr × Obj)} {σ : L2.St} {H : Hp} {s : Shared} {Q : VK} {a dx : Addr} {fs : List (Str × V)} {y : V} {u : Value} (F : FnOk X.prog X.w X.K X.mg X.base CX k f fd ps sp) (hm : Meth X.K C "__getitem__" f) (hf : PySem.W.fnIn X.K f = true) (hr : Room (k + 1) X.A) (hb : Binds X.K fd ps []) (hx : Passes CX X E)
    (I : Inv X pins σ H s) (e : H a = some (.ins C dx fs)) (ry : RelV y u) (q : sp [.ref a, y] H Q E) (hsl : subscripted slice true (.ref a) u = runValue (.builtin "lifetime.subscript" ⟨[.ref a, u], []⟩)) : wpAny (model X.prog X.w) X.A (subscriptTail value slice (.ref a) u) (EP X pins σ Q) X.xe s := by
  obtain ⟨mA, O, _, _, _, _⟩ := ins_get I.hok e
  obtain ⟨od, J, hl⟩ := O.look
  have ht : PySem.W.typeIn X.K (.ref f) = some (.type "function") := beq_iff_eq.mp hm.fn
  have X1 := I.kIn
  have hf' := hf
  unfold PySem.W.fnIn at hf'
  split at hf'
  · rename_i e2
    unfold subscriptTail getitemInPython
    refine wpAny_bind (wpAny_bind (wpAny_bind (J.type.here ((PySem.W.looks_findIn X1 hm.at_).here ?_))))
    dsimp only
    refine wpAny_bind (wpAny_load (X1 _ _ e2) (wpAny_pure ?_))
    dsimp only
    rw [hsl]
    refine wpAny_bind (wpAny_runValue (codeAny_builtin PySem.W.entry_sub ?_))
    unfold Builtin.«lifetime.subscript»
    refine wpAny_bind (PySem.W.special_fn X1 J hm.at_ ht (wpAny_mono (run_fn1 F hr hb .nil hx I (us := [.ref a, u]) (vs := [.ref a, y]) (.cons rfl (.cons ry .nil)) q) (fun v s' z => ?_) fun _ _ z => z))
    refine wpAny_pure ?_
    show wpAny (model X.prog X.w) X.A (letTemporaryGo value (.ref a) v >>= fun _ => pure v) (EP X pins σ Q) X.xe s'
    exact wpAny_bind (wpAny_letTemporaryGo (wpAny_pure z))
  · cases hf'
theorem pe_ixOwn {a b : Expr} {ta tb : TE} (c : C8.Met X.prog X.w X.K X.mg X.base k C "__getitem__" sp []) (hf : ∀ f, Meth X.K C "__getitem__" f → PySem.W.fnIn X.K f = true) (hr : Room j X.A) (hk : k + 1 ≤ j) (ha : PE X a ta) (hb : PE X b tb)
    (hsl : ∀ o i, subscripted b true o i = runValue (.builtin "lifetime.subscript" ⟨[o, i], []⟩) := by intro _ _; rfl) : PE X (.Subscript a b pos) (tOp (rIxOwn C sp C8.E0) ta tb) := by
  obtain ⟨f, fd, ps, ds, hc, hm, F, bd, d⟩ := c.ex
  cases d
  refine ⟨fun pins s σ H Q I h => ?_⟩
  exact Subscript_ (binT ha hb I h fun v u s2 x y H2 I2 rx ry q => by
    obtain ⟨p, dx, fs, rfl, e, q⟩ := q
    cases rx
    exact tail_own F hm (hf f hm) (hr.mono hk) bd C8.pass0 I2 e ry q (hsl _ _))
/-- o[i] = v, by an own __setitem__ -/
def tSetOwn (C : Addr) (sp : Sp) (E : XK) : TSet := fun o i v H Q => ∃ a dx fs, o = .ref a ∧ H a = some (.ins C dx fs) ∧ sp [.ref a, i, v] H (fun _ H' => Q H') E
theorem setItem_own {pins : List (Addr × Obj)} {σ : L2.St} {H : Hp} {s : Shared} {Q : Hp → Prop} {a dx : Addr} {fs : List (Str × V)} {y z : V} {u v : Value} (F : FnOk X.prog X.w X.K X.mg X.base CX k f fd ps sp) (hm : Meth X.K C "__setitem__" f) (hq : PySem.W.noSeq X.K C = true) (hr : Room k X.A) (hb : Binds X.K fd ps []) (hx : Passes CX X E)
    (I : Inv X pins σ H s) (e : H a = some (.ins C dx fs)) (ry : RelV y u) (rz : RelV z v) (q : sp [.ref a, y, z] H (fun _ H' => Q H') E) : wpAny (model X.prog X.w) X.A (setItem (.ref a) u v) (fun _ s' => ∃ H', Inv X pins σ H' s' ∧ Q H') X.xe s := by
  obtain ⟨mA, O, _, _, _, _⟩ := ins_get I.hok e
  obtain ⟨od, J, hl⟩ := O.look
  have ht : PySem.W.typeIn X.K (.ref f) = some (.type "function") := beq_iff_eq.mp hm.fn
  have X1 := I.kIn
  unfold setItem sequenceKey
  refine wpAny_holding (wpAny_bind (wpAny_bind (J.type.here ?_)))
  refine wpAny_bind ((PySem.W.anyM_none X1 hq).here ?_)
  rw [if_pos (show (!false) = true from rfl)]
  refine wpAny_pure (wpAny_bind (PySem.W.special_fn X1 J hm.at_ ht (wpAny_mono (run_fn F hr hb .nil hx I (us := [.ref a, u, v]) (vs := [.ref a, y, z]) (.cons rfl (.cons ry (.cons rz .nil))) q) (fun r s' w => ?_) fun _ _ w => w)))
  obtain ⟨_, H', I', _, q'⟩ := w
  exact wpAny_pure ⟨H', I', q'⟩
theorem pset_own (c : C8.Met X.prog X.w X.K X.mg X.base k C "__setitem__" sp []) (hq : PySem.W.noSeq X.K C = true) (hr : Room j X.A) (hk : k ≤ j) : PSet X (tSetOwn C sp C8.E0) := by
  obtain ⟨f, fd, ps, ds, hc, hm, F, bd, d⟩ := c.ex
  cases d
  intro pins s σ H o i v ov iv u Q I ro ri rv h
  obtain ⟨p, dx, fs, rfl, e, q⟩ := h
  cases ro
  exact setItem_own F hm hq (hr.mono hk) bd C8.pass0 I e ri rv q
end
end Wk
set_option Elab.async false
set_option linter.all false
set_option maxRecDepth 100000
set_option maxHeartbeats 4000000
namespace K05
open PySem PySem.Spec PyProof.Rows L2 Wk
def top (i : Nat) : Stmt := PySem.Challenge.pw_wardwork_k05_whole_holds_are_pages.main.body.getD i (.Pass ⟨0, 0, 0, 0⟩)
/-- what the top leaves that the defs lean on -/
structure Txt (K : PySem.W.Frag) (mg : Str → Option Value) (aREG aOPS : Addr) : Prop extends Bt mg where
  g_WORDS : ∃ u, mg "WORDS" = some u ∧ RelV (.int 65536) u
abbrev FunT (K : PySem.W.Frag) (x : Str) (st : Stmt) (f : Addr) (fd : FuncData) : Prop := FunD K x x (defArgs st) (defBody st) (defScope st) [] [] f fd
/-- a def of the module that stands under its name -/
def DefAt (K : PySem.W.Frag) (mg : Str → Option Value) (x : Str) (st : Stmt) : Prop := ∃ f fd, FunT K x st f fd ∧ mg x = some (.ref f)
/-- the same, with its code object -/
def DefAtC (K : PySem.W.Frag) (mg : Str → Option Value) (x : Str) (st : Stmt) (c : Addr) : Prop := ∃ f fd, (FunT K x st f fd ∧ fd.code = .ref c) ∧ mg x = some (.ref f)
section
variable {P : Program} {w : World} {K : PySem.W.Frag} {mg : Str → Option Value} {base : Heap} {aREG aOPS : Addr}
theorem mk {x : Str} {st : Stmt} {N ps : List Str} {k : Nat} {sp : Sp} (d : DefAt K mg x st) (S : FnScope N ps (defScope st))
    (hb : ∀ (kV doc pm : Value) (an : Option Addr) (cdv ct : Value) (us : List Value), us.length = ps.length → bindArgs (PySem.W.fnOf x x (defArgs st) (defBody st) (defScope st) .none kV doc pm an cdv ct) ⟨us, []⟩ = pure (ps.zip us))
    (len : ∀ vs H Q E, sp vs H Q E → vs.length = ps.length)
    (body : ∀ (f : Addr) (cdv : Value) (A : Around) (outer : List Env) (s : Shared) (H : Hp) (vs : List V) (Q : VK) (E : XK), Room k (A.deeper (envOfC x (defScope st) s.heap.objs.size f cdv)) → sp vs H Q E →
      ∃ t, PSs (cxOf CX0 P w K mg base N x (defScope st) f cdv A outer s H E).nox (defBody st) t ∧ t { nx := fun _ H' => Q .non H', rt := Q } (start N vs) H) : C8.Cal P w K mg base (k + 1) x sp [] := by
  obtain ⟨f, fd, F, hm⟩ := d
  refine ⟨f, fd, ps, [], F.ok S len (fun cdv A outer s H vs Q E hr hsp => ?_), hm, F.kp, F.bindsN hb, .nil⟩
  obtain ⟨t, h, q⟩ := body f cdv A outer s H vs Q E hr hsp
  exact ⟨t, h.nox, q⟩
theorem mkC {x : Str} {st : Stmt} {c : Addr} {N ps : List Str} {k : Nat} {sp : Sp} (d : DefAtC K mg x st c) (S : FnScope N ps (defScope st))
    (hb : ∀ (kV doc pm : Value) (an : Option Addr) (cdv ct : Value) (us : List Value), us.length = ps.length → bindArgs (PySem.W.fnOf x x (defArgs st) (defBody st) (defScope st) .none kV doc pm an cdv ct) ⟨us, []⟩ = pure (ps.zip us))
    (len : ∀ vs H Q E, sp vs H Q E → vs.length = ps.length)
    (body : ∀ (f : Addr) (A : Around) (outer : List Env) (s : Shared) (H : Hp) (vs : List V) (Q : VK) (E : XK), Room k (A.deeper (envOfC x (defScope st) s.heap.objs.size f (.ref c))) → sp vs H Q E →
      ∃ t, PSs (cxOf CX0 P w K mg base N x (defScope st) f (.ref c) A outer s H E).nox (defBody st) t ∧ t { nx := fun _ H' => Q .non H', rt := Q } (start N vs) H) : C8.Cal P w K mg base (k + 1) x sp [] := by
  obtain ⟨f, fd, ⟨F, hc⟩, hm⟩ := d
  refine ⟨f, fd, ps, [], ?_, hm, F.kp, F.bindsN hb, .nil⟩
  obtain ⟨oc, od, dV, kV, doc, pm, an, cdv, ct, osl, rfl, lk, hcd, _, _⟩ := F.ex
  cases (show cdv = .ref c from hc)
  exact fn_of lk hcd S len fun A outer s H vs Q E hr hsp => let ⟨t, h, q⟩ := body f A outer s H vs Q E hr hsp; ⟨t, h.nox, q⟩
theorem mkF {x : Str} {st : Stmt} {N ps : List Str} {k : Nat} {sp : Sp} {f : Addr} {fd : FuncData} (F : FunT K x st f fd) (S : FnScope N ps (defScope st))
    (len : ∀ vs H Q E, sp vs H Q E → vs.length = ps.length)
    (body : ∀ (f : Addr) (cdv : Value) (A : Around) (outer : List Env) (s : Shared) (H : Hp) (vs : List V) (Q : VK) (E : XK), Room k (A.deeper (envOfC x (defScope st) s.heap.objs.size f cdv)) → sp vs H Q E →
      ∃ t, PSs (cxOf CX0 P w K mg base N x (defScope st) f cdv A outer s H E).nox (defBody st) t ∧ t { nx := fun _ H' => Q .non H', rt := Q } (start N vs) H) : FnOk P w K mg base CX0 (k + 1) f fd ps sp :=
  F.ok S len fun cdv A outer s H vs Q E hr hsp => let ⟨t, h, q⟩ := body f cdv A outer s H vs Q E hr hsp; ⟨t, h.nox, q⟩
abbrev s__law_mixed : Stmt := top 30
abbrev nm__law_mixed : List Str := ["number", "turn", "many", "first", "second", "third"]
theorem sc__law_mixed : FnScope nm__law_mixed ["number", "turn", "many"] (defScope s__law_mixed) := ⟨rfl, rfl, rfl, by decide +kernel, rfl, by decide +kernel, by decide +kernel⟩
abbrev s__law_store : Stmt := top 31
abbrev nm__law_store : List Str := ["script", "salt", "seed", "cell"]
theorem sc__law_store : FnScope nm__law_store ["script", "salt"] (defScope s__law_store) := ⟨rfl, rfl, rfl, by decide +kernel, rfl, by decide +kernel, by decide +kernel⟩
abbrev s__law_take : Stmt := top 32
abbrev nm__law_take : List Str := ["store", "many", "cell", "digit"]
theorem sc__law_take : FnScope nm__law_take ["store", "many"] (defScope s__law_take) := ⟨rfl, rfl, rfl, by decide +kernel, rfl, by decide +kernel, by decide +kernel⟩
abbrev s__law_between : Stmt := top 33
abbrev nm__law_between : List Str := ["store", "low", "high", "many", "way"]
theorem sc__law_between : FnScope nm__law_between ["store", "low", "high"] (defScope s__law_between) := ⟨rfl, rfl, rfl, by decide +kernel, rfl, by decide +kernel, by decide +kernel⟩
abbrev s__law_size : Stmt := top 34
abbrev nm__law_size : List Str := ["store", "most", "way"]
theorem sc__law_size : FnScope nm__law_size ["store", "most"] (defScope s__law_size) := ⟨rfl, rfl, rfl, by decide +kernel, rfl, by decide +kernel, by decide +kernel⟩
abbrev s__law_word : Stmt := top 35
abbrev nm__law_word : List Str := ["store", "way"]
theorem sc__law_word : FnScope nm__law_word ["store"] (defScope s__law_word) := ⟨rfl, rfl, rfl, by decide +kernel, rfl, by decide +kernel, by decide +kernel⟩
abbrev s__law_pick : Stmt := top 36
abbrev nm__law_pick : List Str := ["store", "row"]
theorem sc__law_pick : FnScope nm__law_pick ["store", "row"] (defScope s__law_pick) := ⟨rfl, rfl, rfl, by decide +kernel, rfl, by decide +kernel, by decide +kernel⟩
abbrev s__law_alike : Stmt := top 37
abbrev nm__law_alike : List Str := ["one", "two", "k"]
theorem sc__law_alike : FnScope nm__law_alike ["one", "two"] (defScope s__law_alike) := ⟨rfl, rfl, rfl, by decide +kernel, rfl, by decide +kernel, by decide +kernel⟩
abbrev s_is_integer : Stmt := top 17
abbrev nm_is_integer : List Str := ["x"]
theorem sc_is_integer : FnScope nm_is_integer ["x"] (defScope s_is_integer) := ⟨rfl, rfl, rfl, by decide +kernel, rfl, by decide +kernel, by decide +kernel⟩
abbrev s_is_in_range : Stmt := top 18
abbrev nm_is_in_range : List Str := ["x", "least", "most"]
theorem sc_is_in_range : FnScope nm_is_in_range ["x", "least", "most"] (defScope s_is_in_range) := ⟨rfl, rfl, rfl, by decide +kernel, rfl, by decide +kernel, by decide +kernel⟩
abbrev s_is_word : Stmt := top 19
abbrev nm_is_word : List Str := ["x"]
theorem sc_is_word : FnScope nm_is_word ["x"] (defScope s_is_word) := ⟨rfl, rfl, rfl, by decide +kernel, rfl, by decide +kernel, by decide +kernel⟩
abbrev s_are_words : Stmt := top 20
abbrev nm_are_words : List Str := ["parts"]
theorem sc_are_words : FnScope nm_are_words ["parts"] (defScope s_are_words) := ⟨rfl, rfl, rfl, by decide +kernel, rfl, by decide +kernel, by decide +kernel⟩
abbrev s_ask_range : Stmt := top 22
abbrev nm_ask_range : List Str := ["name", "number", "least", "most"]
theorem sc_ask_range : FnScope nm_ask_range ["name", "number", "least", "most"] (defScope s_ask_range) := ⟨rfl, rfl, rfl, by decide +kernel, rfl, by decide +kernel, by decide +kernel⟩
abbrev s_ask_word : Stmt := top 23
abbrev nm_ask_word : List Str := ["name", "word"]
theorem sc_ask_word : FnScope nm_ask_word ["name", "word"] (defScope s_ask_word) := ⟨rfl, rfl, rfl, by decide +kernel, rfl, by decide +kernel, by decide +kernel⟩
abbrev s_is_list_of_words : Stmt := top 21
abbrev nm_is_list_of_words : List Str := ["x", "least", "most"]
theorem sc_is_list_of_words : FnScope nm_is_list_of_words ["x", "least", "most"] (defScope s_is_list_of_words) := ⟨rfl, rfl, rfl, by decide +kernel, rfl, by decide +kernel, by decide +kernel⟩
abbrev s_ask_words : Stmt := top 24
abbrev nm_ask_words : List Str := ["name", "words", "least", "most"]
theorem sc_ask_words : FnScope nm_ask_words ["name", "words", "least", "most"] (defScope s_ask_words) := ⟨rfl, rfl, rfl, by decide +kernel, rfl, by decide +kernel, by decide +kernel⟩
abbrev s_Frames____init__ : Stmt := inClass (top 28) 0
abbrev nm_Frames____init__ : List Str := ["self", "many"]
theorem sc_Frames____init__ : FnScope nm_Frames____init__ ["self", "many"] (defScope s_Frames____init__) := ⟨rfl, rfl, rfl, by decide +kernel, rfl, by decide +kernel, by decide +kernel⟩
abbrev s_Frames__free : Stmt := inClass (top 28) 2
abbrev nm_Frames__free : List Str := ["self", "frame", "holds"]
theorem sc_Frames__free : FnScope nm_Frames__free ["self"] (defScope s_Frames__free) := ⟨rfl, rfl, rfl, by decide +kernel, rfl, by decide +kernel, by decide +kernel⟩
abbrev s_Frames__take : Stmt := inClass (top 28) 3
abbrev nm_Frames__take : List Str := ["self", "words", "free", "frame"]
theorem sc_Frames__take : FnScope nm_Frames__take ["self", "words"] (defScope s_Frames__take) := ⟨rfl, rfl, rfl, by decide +kernel, rfl, by decide +kernel, by decide +kernel⟩
abbrev s_Frames__share : Stmt := inClass (top 28) 4
abbrev nm_Frames__share : List Str := ["self", "frame"]
theorem sc_Frames__share : FnScope nm_Frames__share ["self", "frame"] (defScope s_Frames__share) := ⟨rfl, rfl, rfl, by decide +kernel, rfl, by decide +kernel, by decide +kernel⟩
abbrev s_Frames__drop : Stmt := inClass (top 28) 5
abbrev nm_Frames__drop : List Str := ["self", "frame"]
theorem sc_Frames__drop : FnScope nm_Frames__drop ["self", "frame"] (defScope s_Frames__drop) := ⟨rfl, rfl, rfl, by decide +kernel, rfl, by decide +kernel, by decide +kernel⟩
abbrev s_Frames__peek : Stmt := inClass (top 28) 6
abbrev nm_Frames__peek : List Str := ["self", "frame", "offset"]
theorem sc_Frames__peek : FnScope nm_Frames__peek ["self", "frame", "offset"] (defScope s_Frames__peek) := ⟨rfl, rfl, rfl, by decide +kernel, rfl, by decide +kernel, by decide +kernel⟩
abbrev s_Frames__poke : Stmt := inClass (top 28) 7
abbrev nm_Frames__poke : List Str := ["self", "frame", "offset", "word"]
theorem sc_Frames__poke : FnScope nm_Frames__poke ["self", "frame", "offset", "word"] (defScope s_Frames__poke) := ⟨rfl, rfl, rfl, by decide +kernel, rfl, by decide +kernel, by decide +kernel⟩
abbrev s_Frames__page : Stmt := inClass (top 28) 8
abbrev nm_Frames__page : List Str := ["self", "frame"]
theorem sc_Frames__page : FnScope nm_Frames__page ["self", "frame"] (defScope s_Frames__page) := ⟨rfl, rfl, rfl, by decide +kernel, rfl, by decide +kernel, by decide +kernel⟩
abbrev s_Frames__holds : Stmt := inClass (top 28) 9
abbrev nm_Frames__holds : List Str := ["self", "frame"]
theorem sc_Frames__holds : FnScope nm_Frames__holds ["self", "frame"] (defScope s_Frames__holds) := ⟨rfl, rfl, rfl, by decide +kernel, rfl, by decide +kernel, by decide +kernel⟩
abbrev s_Frames___ask_frame : Stmt := inClass (top 28) 10
abbrev nm_Frames___ask_frame : List Str := ["self", "frame"]
theorem sc_Frames___ask_frame : FnScope nm_Frames___ask_frame ["self", "frame"] (defScope s_Frames___ask_frame) := ⟨rfl, rfl, rfl, by decide +kernel, rfl, by decide +kernel, by decide +kernel⟩
abbrev s_Frames___ask_used : Stmt := inClass (top 28) 11
abbrev nm_Frames___ask_used : List Str := ["self", "frame"]
theorem sc_Frames___ask_used : FnScope nm_Frames___ask_used ["self", "frame"] (defScope s_Frames___ask_used) := ⟨rfl, rfl, rfl, by decide +kernel, rfl, by decide +kernel, by decide +kernel⟩
abbrev s_Space____init__ : Stmt := inClass (top 26) 0
abbrev nm_Space____init__ : List Str := ["self", "frames", "pages"]
theorem sc_Space____init__ : FnScope nm_Space____init__ ["self", "frames", "pages"] (defScope s_Space____init__) := ⟨rfl, rfl, rfl, by decide +kernel, rfl, by decide +kernel, by decide +kernel⟩
abbrev s_Space__pages : Stmt := inClass (top 26) 1
abbrev nm_Space__pages : List Str := ["self"]
theorem sc_Space__pages : FnScope nm_Space__pages ["self"] (defScope s_Space__pages) := ⟨rfl, rfl, rfl, by decide +kernel, rfl, by decide +kernel, by decide +kernel⟩
abbrev s_Space__read : Stmt := inClass (top 26) 2
abbrev nm_Space__read : List Str := ["self", "address"]
theorem sc_Space__read : FnScope nm_Space__read ["self", "address"] (defScope s_Space__read) := ⟨rfl, rfl, rfl, by decide +kernel, rfl, by decide +kernel, by decide +kernel⟩
abbrev s_Space__write : Stmt := inClass (top 26) 3
abbrev nm_Space__write : List Str := ["self", "address", "word", "frame"]
theorem sc_Space__write : FnScope nm_Space__write ["self", "address", "word"] (defScope s_Space__write) := ⟨rfl, rfl, rfl, by decide +kernel, rfl, by decide +kernel, by decide +kernel⟩
abbrev s_Space__contents : Stmt := inClass (top 26) 4
abbrev nm_Space__contents : List Str := ["self", "words", "frame"]
theorem sc_Space__contents : FnScope nm_Space__contents ["self"] (defScope s_Space__contents) := ⟨rfl, rfl, rfl, by decide +kernel, rfl, by decide +kernel, by decide +kernel⟩
abbrev s_Space___word_at : Stmt := inClass (top 26) 12
abbrev nm_Space___word_at : List Str := ["self", "address", "frame"]
theorem sc_Space___word_at : FnScope nm_Space___word_at ["self", "address"] (defScope s_Space___word_at) := ⟨rfl, rfl, rfl, by decide +kernel, rfl, by decide +kernel, by decide +kernel⟩
abbrev s_Space___own_frame : Stmt := inClass (top 26) 13
abbrev nm_Space___own_frame : List Str := ["self", "page", "frame", "own"]
theorem sc_Space___own_frame : FnScope nm_Space___own_frame ["self", "page"] (defScope s_Space___own_frame) := ⟨rfl, rfl, rfl, by decide +kernel, rfl, by decide +kernel, by decide +kernel⟩
abbrev s_Space___ask_address : Stmt := inClass (top 26) 14
abbrev nm_Space___ask_address : List Str := ["self", "address"]
theorem sc_Space___ask_address : FnScope nm_Space___ask_address ["self", "address"] (defScope s_Space___ask_address) := ⟨rfl, rfl, rfl, by decide +kernel, rfl, by decide +kernel, by decide +kernel⟩
abbrev s_Space___ask_unclosed : Stmt := inClass (top 26) 15
abbrev nm_Space___ask_unclosed : List Str := ["self"]
theorem sc_Space___ask_unclosed : FnScope nm_Space___ask_unclosed ["self"] (defScope s_Space___ask_unclosed) := ⟨rfl, rfl, rfl, by decide +kernel, rfl, by decide +kernel, by decide +kernel⟩
abbrev s_Space__fork : Stmt := inClass (top 26) 6
abbrev nm_Space__fork : List Str := ["self", "child", "frame"]
theorem sc_Space__fork : FnScope nm_Space__fork ["self"] (defScope s_Space__fork) := ⟨rfl, rfl, rfl, by decide +kernel, rfl, by decide +kernel, by decide +kernel⟩
abbrev s_Space__close : Stmt := inClass (top 26) 7
abbrev nm_Space__close : List Str := ["self", "frame"]
theorem sc_Space__close : FnScope nm_Space__close ["self"] (defScope s_Space__close) := ⟨rfl, rfl, rfl, by decide +kernel, rfl, by decide +kernel, by decide +kernel⟩
abbrev s__law_space_calls : Stmt := top 40
abbrev nm__law_space_calls : List Str := ["store", "pages", "count", "rows", "k", "way", "who", "address"]
theorem sc__law_space_calls : FnScope nm__law_space_calls ["store", "pages", "count"] (defScope s__law_space_calls) := ⟨rfl, rfl, rfl, by decide +kernel, rfl, by decide +kernel, by decide +kernel⟩
abbrev s_Unknown____init__ : Stmt := inClass (top 8) 0
abbrev nm_Unknown____init__ : List Str := ["self", "what"]
theorem sc_Unknown____init__ : FnScope nm_Unknown____init__ ["self", "what"] (defScope s_Unknown____init__) := ⟨rfl, rfl, rfl, by decide +kernel, rfl, by decide +kernel, by decide +kernel⟩
abbrev s__law_error : Stmt := top 39
abbrev nm__law_error : List Str := ["e", "rows"]
theorem sc__law_error : FnScope nm__law_error ["e"] (defScope s__law_error) := ⟨rfl, rfl, rfl, by decide +kernel, rfl, by decide +kernel, by decide +kernel⟩
abbrev s_Space__table : Stmt := inClass (top 26) 5
abbrev nm_Space__table : List Str := ["self"]
theorem sc_Space__table : FnScope nm_Space__table ["self"] (defScope s_Space__table) := ⟨rfl, rfl, rfl, by decide +kernel, rfl, by decide +kernel, by decide +kernel⟩
abbrev s_Space____getitem__ : Stmt := inClass (top 26) 8
abbrev nm_Space____getitem__ : List Str := ["self", "at"]
theorem sc_Space____getitem__ : FnScope nm_Space____getitem__ ["self", "at"] (defScope s_Space____getitem__) := ⟨rfl, rfl, rfl, by decide +kernel, rfl, by decide +kernel, by decide +kernel⟩
abbrev s_Space____setitem__ : Stmt := inClass (top 26) 9
abbrev nm_Space____setitem__ : List Str := ["self", "at", "worth"]
theorem sc_Space____setitem__ : FnScope nm_Space____setitem__ ["self", "at", "worth"] (defScope s_Space____setitem__) := ⟨rfl, rfl, rfl, by decide +kernel, rfl, by decide +kernel, by decide +kernel⟩
abbrev s__law_holds : Stmt := top 41
abbrev nm__law_holds : List Str := ["spaces", "many", "holds", "row", "place"]
theorem sc__law_holds : FnScope nm__law_holds ["spaces", "many"] (defScope s__law_holds) := ⟨rfl, rfl, rfl, by decide +kernel, rfl, by decide +kernel, by decide +kernel⟩
abbrev s__law_read : Stmt := top 43
abbrev nm__law_read : List Str := ["spaces", "words", "who", "address", "place"]
theorem sc__law_read : FnScope nm__law_read ["spaces", "words", "who", "address"] (defScope s__law_read) := ⟨rfl, rfl, rfl, by decide +kernel, rfl, by decide +kernel, by decide +kernel⟩
abbrev s__law_write : Stmt := top 42
abbrev nm__law_write : List Str := ["spaces", "words", "who", "address", "word", "table", "at", "place", "holds", "page"]
theorem sc__law_write : FnScope nm__law_write ["spaces", "words", "who", "address", "word"] (defScope s__law_write) := ⟨rfl, rfl, rfl, by decide +kernel, rfl, by decide +kernel, by decide +kernel⟩
abbrev s__law_looks : Stmt := top 44
abbrev nm__law_looks : List Str := ["frames", "spaces", "many", "chosen", "row", "told", "holds", "place"]
theorem sc__law_looks : FnScope nm__law_looks ["frames", "spaces", "many", "chosen"] (defScope s__law_looks) := ⟨rfl, rfl, rfl, by decide +kernel, rfl, by decide +kernel, by decide +kernel⟩
abbrev s__law_page : Stmt := top 45
abbrev nm__law_page : List Str := ["frames", "place", "e"]
theorem sc__law_page : FnScope nm__law_page ["frames", "place"] (defScope s__law_page) := ⟨rfl, rfl, rfl, by decide +kernel, rfl, by decide +kernel, by decide +kernel⟩
abbrev s__law_whole : Stmt := top 46
abbrev nm__law_whole : List Str := ["frames", "spaces", "words", "many", "holds", "place", "due", "who", "row", "address"]
theorem sc__law_whole : FnScope nm__law_whole ["frames", "spaces", "words", "many"] (defScope s__law_whole) := ⟨rfl, rfl, rfl, by decide +kernel, rfl, by decide +kernel, by decide +kernel⟩
abbrev s__law_step : Stmt := top 47
abbrev nm__law_step : List Str := ["store", "spaces", "words", "who", "call", "row", "address", "there", "space", "brackets", "word"]
theorem sc__law_step : FnScope nm__law_step ["store", "spaces", "words", "who", "call"] (defScope s__law_step) := ⟨rfl, rfl, rfl, by decide +kernel, rfl, by decide +kernel, by decide +kernel⟩
abbrev s__law_copy : Stmt := top 38
abbrev nm__law_copy : List Str := ["value", "x"]
theorem sc__law_copy : FnScope nm__law_copy ["value"] (defScope s__law_copy) := ⟨rfl, rfl, rfl, by decide +kernel, rfl, by decide +kernel, by decide +kernel⟩
abbrev s_law : Stmt := top 48
abbrev nm_law : List Str := ["script", "store", "sizes", "top", "many", "frames", "words", "spaces", "call", "who", "row", "pages"]
theorem sc_law : FnScope nm_law ["script"] (defScope s_law) := ⟨rfl, rfl, rfl, by decide +kernel, rfl, by decide +kernel, by decide +kernel⟩
end
end K05
namespace K05
open PySem PySem.Spec PyProof.Rows L2 Wk
/-! ### the head -/
/-! ### what is looked at: the module's names and the interpreter's own statics -/
def obsA (as : List Addr) (fa : List He.Fa) (fn : List He.DefD) (tf : List He.Defn) (ex : PySem.W.Frag → Bool) (g : Addr → Option Obj) : He.AlX := (He.obsT fa fn [] (He.frT g as), ex (He.frT g as) && He.tabsB g tf (He.frT g as))
theorem saysA {as : List Addr} {fa : List He.Fa} {fn : List He.DefD} {tf : List He.Defn} {ex : PySem.W.Frag → Bool} {w : World} {h : Heap} (e : obsA as fa fn tf ex h.get? = He.valX fn [] w) : He.SaysX fa fn [] tf ex w h (He.frT h.get? as) := by
  have e1 : He.obsT fa fn [] (He.frT h.get? as) = He.valT fn [] w := congrArg (fun z : He.AlX => z.1) e
  have e2 : (ex (He.frT h.get? as) && He.tabsB h.get? tf (He.frT h.get? as)) = true := congrArg (fun z : He.AlX => z.2) e
  obtain ⟨h1, h2⟩ := He.ba e2
  have tb : ∀ p ∈ tf, PySem.W.codeHdIn (He.frT h.get? as) (He.cT (He.frT h.get? as) p).1 (He.cT (He.frT h.get? as) p).2 = true ∧ ∃ o, h.get? (He.cT (He.frT h.get? as) p).2 = some o ∧ He.emptyTab o = true := fun p hp => by
    obtain ⟨z1, z2⟩ := He.ba (List.all_eq_true.mp h2 p hp)
    refine ⟨z1, ?_⟩
    split at z2
    · exact ⟨_, by assumption, z2⟩
    · cases z2
  exact ⟨e1, h1, fun p hp => (tb p hp).1, fun p hp => let ⟨_, _, q, z⟩ := tb p hp; He.frT_none q z, fun p hp => let ⟨_, _, q, z⟩ := tb p hp; q.trans (congrArg some (He.emptyTab_eq z))⟩
def tupAt (K : PySem.W.Frag) (a : Addr) (vs : List V) : Bool := match K.lookup a with
  | some ⟨.type c, _, .seq its _, _⟩ => decide (c = "tuple") && (decide (its.size ≤ sizeLine) && He.relAll vs its.toList)
  | _ => false
theorem tupAt_ok {K : PySem.W.Frag} {a : Addr} {vs : List V} (h : tupAt K a vs = true) (H : Hp) : SqT K H a vs := by
  unfold tupAt at h
  split at h
  · rename_i c d its n sl q
    obtain ⟨h1, h2⟩ := He.ba h
    obtain ⟨h3, h4⟩ := He.ba h2
    exact .inr ⟨_, its, n, q, congrArg Value.type (of_decide_eq_true h1), rfl, of_decide_eq_true h3, He.relAll_ok h4⟩
  · cases h
/-- an own class of errors over ValueError -/
def oexB (K : PySem.W.Frag) (C : Addr) : Bool := (match K.lookup C with
  | some ⟨.type t, _, .cls cd, sl⟩ => decide (t = "type") && ((match cd.mro with
    | .ref C' :: bm => decide (C' = C) && PySem.HandSPX.refsVE bm
    | _ => false) && (cd.hasDict && (!cd.hasDel && (match sl.toList with
    | [_, _, _, _, some (.builtin n), _] => decide (n = "ValueError.__new__")
    | _ => false))))
  | _ => false) && (He.eqO (PySem.W.findIn K (.ref C) "__setattr__") (some (some (.builtin "object.__setattr__"))) && (decide (PySem.W.subIn K (.ref C) (.type "BaseException") = some true) && (decide (PySem.W.typeIn K (.ref C) = some (.type "type")) && PySem.W.keepIn K (.ref C))))
theorem oexB_ok {K : PySem.W.Frag} {C : Addr} (h : oexB K C = true) : OexC K C := by
  obtain ⟨h1, h⟩ := He.ba h
  obtain ⟨h2, h⟩ := He.ba h
  obtain ⟨h3, h⟩ := He.ba h
  obtain ⟨h4, h5⟩ := He.ba h
  refine ⟨?_, He.eqO_ok h2, of_decide_eq_true h3, of_decide_eq_true h4, h5⟩
  split at h1
  · rename_i t dd cd sl lk
    obtain ⟨k1, h1⟩ := He.ba h1
    obtain ⟨k2, h1⟩ := He.ba h1
    obtain ⟨k3, h1⟩ := He.ba h1
    obtain ⟨k4, k5⟩ := He.ba h1
    obtain ⟨nm, bs, mro, ns, qn, hd, sn, sub, ab, col, del⟩ := cd
    dsimp only at k2 k3 k4
    obtain rfl : t = "type" := of_decide_eq_true k1
    obtain rfl : hd = true := k3
    obtain rfl : del = false := by cases del with
      | false => rfl
      | true => cases k4
    cases mro with
    | nil => cases k2
    | cons u bm =>
      cases u with
      | ref C' =>
        obtain ⟨k6, k7⟩ := He.ba k2
        obtain rfl : C' = C := of_decide_eq_true k6
        obtain ⟨l⟩ := sl
        match l, k5, lk with
        | [k0, k1, k2, k3, some (.builtin n), k5'], k5, lk =>
          obtain rfl : n = "ValueError.__new__" := of_decide_eq_true k5
          exact ⟨_, _, _, _, _, _, _, _, _, _, _, _, _, _, _, lk, k7⟩
      | _ => cases k2
  · cases h1
def excB (K : PySem.W.Frag) (D : Addr) : Bool := He.eqO (PySem.W.findIn K (.ref D) "__getattribute__") (some (some (.builtin "BaseException.__getattribute__"))) && (He.eqO (PySem.W.findIn K (.ref D) "__getattr__") (some none) && (decide (PySem.W.subIn K (.ref D) (.type "BaseException") = some true) && (PySem.W.hasDictIn K D &&
  (He.eqO (PySem.W.findIn K (.ref D) "__class__") (some (some (.builtin "object.__class__"))) && (He.eqO (PySem.W.specialIn K (.builtin "object.__class__") "__get__") (some (some (.builtin "getset_descriptor.__get__"))) && (decide (PySem.W.takesIn K (.builtin "object.__class__") = some true) && decide (PySem.W.mroIn K D (.type "object") = some true)))))))
theorem excB_ok {K : PySem.W.Frag} {D : Addr} (h : excB K D = true) : ExcC K D := by
  obtain ⟨h1, h⟩ := He.ba h
  obtain ⟨h2, h⟩ := He.ba h
  obtain ⟨h3, h⟩ := He.ba h
  obtain ⟨h4, h⟩ := He.ba h
  obtain ⟨h5, h⟩ := He.ba h
  obtain ⟨h6, h⟩ := He.ba h
  obtain ⟨h7, h8⟩ := He.ba h
  exact ⟨He.eqO_ok h1, He.eqO_ok h2, of_decide_eq_true h3, h4, He.eqO_ok h5, He.eqO_ok h6, of_decide_eq_true h7, of_decide_eq_true h8⟩
def wrB (K : PySem.W.Frag) (W : Addr) : Bool := PySem.W.readsIn K W (.type "type") && (match PySem.W.findCls K (.ref W) (.type "type") "__init__" with
  | some (.val v) => decide (v = .builtin "ValueError.__init__")
  | _ => false)
theorem wrB_ok {K : PySem.W.Frag} {W : Addr} (h : wrB K W = true) : ∃ mc, PySem.W.readsIn K W mc = true ∧ PySem.W.findCls K (.ref W) mc "__init__" = some (.val (.builtin "ValueError.__init__")) := by
  obtain ⟨h1, h2⟩ := He.ba h
  refine ⟨_, h1, ?_⟩
  split at h2
  · rename_i v e
    rw [e, of_decide_eq_true h2]
  · cases h2
def errNs : List Str := ["BadArgument", "BadText", "LabelTwice", "LabelMissing", "TooLong", "Unknown", "Taken", "NotAllowed", "WrongState", "RingOfWaits", "Full", "Stopped", "SourceError"]
def errXB (K : PySem.W.Frag) (nm : Str) : Bool := let C := He.ga K nm; let W := He.ga K "WardError"; let f := He.ma K C "__init__"
  He.eqO (PySem.W.nsIn K mainGlobals nm) (some (some (.ref C))) && (He.eqO (PySem.W.nsIn K mainGlobals "WardError") (some (some (.ref W))) && (He.eqO (PySem.W.nsIn K mainGlobals "ValueError") (some none) && (oexB K C && (L2.xfB K C && (excB K C && (He.eqO (PySem.W.findIn K (.ref C) "what") (some none) &&
    (He.eqO (PySem.W.findIn K (.ref C) "__init__") (some (some (.ref f))) && (decide (PySem.W.typeIn K (.ref f) = some (.type "function")) && (He.eqO (PySem.W.specialIn K (.ref W) "__getattribute__") (some (some (.builtin "type.__getattribute__"))) && (wrB K W && (decide (PySem.W.kitOne K (.ref C) (.ref W) = some true) &&
    (decide (PySem.W.exmOne K (.ref C) (.ref W) = some true) && (decide (PySem.W.kitOne K (.ref C) (.type "ValueError") = some true) &&
    errNs.all fun x => He.eqO (PySem.W.nsIn K mainGlobals x) (some (some (.ref (He.ga K x)))) && decide (PySem.W.kitOne K (.ref C) (.ref (He.ga K x)) = some (decide (x = nm))))))))))))))))

def prB (K : PySem.W.Frag) (x m : Str) : Bool := He.eqO (PySem.W.findIn K (.ref (He.ga K x)) m) (some (some (.ref (He.ma K (He.ga K x) m)))) && (He.eqO (PySem.W.specialIn K (.ref (He.ma K (He.ga K x) m)) "__get__") (some (some (.builtin "property.__get__"))) && (decide (PySem.W.takesIn K (.ref (He.ma K (He.ga K x) m)) = some true) &&
  (match PySem.W.recIn K (He.ma K (He.ga K x) m) "property" with
    | some (.ref _ :: _) => true
    | _ => false)))
theorem prB_ok {K : PySem.W.Frag} {x m : Str} (h : prB K x m = true) : PropOf K (He.ga K x) m (He.ma K (He.ga K x) m) (He5.wf K (He.ga K x) "property" m) := by
  obtain ⟨h1, h⟩ := He.ba h
  obtain ⟨h2, h⟩ := He.ba h
  obtain ⟨h3, h4⟩ := He.ba h
  refine ⟨He.eqO_ok h1, He.eqO_ok h2, of_decide_eq_true h3, ?_⟩
  unfold He5.wf
  split at h4
  · rename_i g r q
    rw [q]
    exact ⟨r, rfl⟩
  · cases h4
def ex (K : PySem.W.Frag) : Bool := (prB K "Frames" "free" && (PySem.W.noSeq K (He.ga K "Space") && errXB K "Unknown"))
def d_is_integer : He.DefD := ⟨("is_integer", none), "is_integer", "is_integer", defArgs s_is_integer, defBody s_is_integer, defScope s_is_integer, [], []⟩
def d_is_in_range : He.DefD := ⟨("is_in_range", none), "is_in_range", "is_in_range", defArgs s_is_in_range, defBody s_is_in_range, defScope s_is_in_range, [], []⟩
def d_is_word : He.DefD := ⟨("is_word", none), "is_word", "is_word", defArgs s_is_word, defBody s_is_word, defScope s_is_word, [], []⟩
def d_are_words : He.DefD := ⟨("are_words", none), "are_words", "are_words", defArgs s_are_words, defBody s_are_words, defScope s_are_words, [], []⟩
def d_is_list_of_words : He.DefD := ⟨("is_list_of_words", none), "is_list_of_words", "is_list_of_words", defArgs s_is_list_of_words, defBody s_is_list_of_words, defScope s_is_list_of_words, [], []⟩
def d_ask_range : He.DefD := ⟨("ask_range", none), "ask_range", "ask_range", defArgs s_ask_range, defBody s_ask_range, defScope s_ask_range, [], []⟩
def d_ask_word : He.DefD := ⟨("ask_word", none), "ask_word", "ask_word", defArgs s_ask_word, defBody s_ask_word, defScope s_ask_word, [], []⟩
def d_ask_words : He.DefD := ⟨("ask_words", none), "ask_words", "ask_words", defArgs s_ask_words, defBody s_ask_words, defScope s_ask_words, [], []⟩
def d__law_mixed : He.DefD := ⟨("_law_mixed", none), "_law_mixed", "_law_mixed", defArgs s__law_mixed, defBody s__law_mixed, defScope s__law_mixed, [], []⟩
def d__law_store : He.DefD := ⟨("_law_store", none), "_law_store", "_law_store", defArgs s__law_store, defBody s__law_store, defScope s__law_store, [], []⟩
def d__law_take : He.DefD := ⟨("_law_take", none), "_law_take", "_law_take", defArgs s__law_take, defBody s__law_take, defScope s__law_take, [], []⟩
def d__law_between : He.DefD := ⟨("_law_between", none), "_law_between", "_law_between", defArgs s__law_between, defBody s__law_between, defScope s__law_between, [], []⟩
def d__law_size : He.DefD := ⟨("_law_size", none), "_law_size", "_law_size", defArgs s__law_size, defBody s__law_size, defScope s__law_size, [], []⟩
def d__law_word : He.DefD := ⟨("_law_word", none), "_law_word", "_law_word", defArgs s__law_word, defBody s__law_word, defScope s__law_word, [], []⟩
def d__law_pick : He.DefD := ⟨("_law_pick", none), "_law_pick", "_law_pick", defArgs s__law_pick, defBody s__law_pick, defScope s__law_pick, [], []⟩
def d__law_alike : He.DefD := ⟨("_law_alike", none), "_law_alike", "_law_alike", defArgs s__law_alike, defBody s__law_alike, defScope s__law_alike, [], []⟩
def d__law_copy : He.DefD := ⟨("_law_copy", none), "_law_copy", "_law_copy", defArgs s__law_copy, defBody s__law_copy, defScope s__law_copy, [], []⟩
def d__law_error : He.DefD := ⟨("_law_error", none), "_law_error", "_law_error", defArgs s__law_error, defBody s__law_error, defScope s__law_error, [], []⟩
def d__law_space_calls : He.DefD := ⟨("_law_space_calls", none), "_law_space_calls", "_law_space_calls", defArgs s__law_space_calls, defBody s__law_space_calls, defScope s__law_space_calls, [], []⟩
def d__law_holds : He.DefD := ⟨("_law_holds", none), "_law_holds", "_law_holds", defArgs s__law_holds, defBody s__law_holds, defScope s__law_holds, [], []⟩
def d__law_write : He.DefD := ⟨("_law_write", none), "_law_write", "_law_write", defArgs s__law_write, defBody s__law_write, defScope s__law_write, [], []⟩
def d__law_read : He.DefD := ⟨("_law_read", none), "_law_read", "_law_read", defArgs s__law_read, defBody s__law_read, defScope s__law_read, [], []⟩
def d__law_looks : He.DefD := ⟨("_law_looks", none), "_law_looks", "_law_looks", defArgs s__law_looks, defBody s__law_looks, defScope s__law_looks, [], []⟩
def d__law_page : He.DefD := ⟨("_law_page", none), "_law_page", "_law_page", defArgs s__law_page, defBody s__law_page, defScope s__law_page, [], []⟩
def d__law_whole : He.DefD := ⟨("_law_whole", none), "_law_whole", "_law_whole", defArgs s__law_whole, defBody s__law_whole, defScope s__law_whole, [], []⟩
def d__law_step : He.DefD := ⟨("_law_step", none), "_law_step", "_law_step", defArgs s__law_step, defBody s__law_step, defScope s__law_step, [], []⟩
def d_law : He.DefD := ⟨("law", none), "law", "law", defArgs s_law, defBody s_law, defScope s_law, [], []⟩
def d_M_Frames_share : He.DefD := ⟨("Frames", some "share"), "share", "Frames.share", defArgs s_Frames__share, defBody s_Frames__share, defScope s_Frames__share, [], []⟩
def d_M_Frames_drop : He.DefD := ⟨("Frames", some "drop"), "drop", "Frames.drop", defArgs s_Frames__drop, defBody s_Frames__drop, defScope s_Frames__drop, [], []⟩
def d_M_Frames_peek : He.DefD := ⟨("Frames", some "peek"), "peek", "Frames.peek", defArgs s_Frames__peek, defBody s_Frames__peek, defScope s_Frames__peek, [], []⟩
def d_M_Frames_poke : He.DefD := ⟨("Frames", some "poke"), "poke", "Frames.poke", defArgs s_Frames__poke, defBody s_Frames__poke, defScope s_Frames__poke, [], []⟩
def d_M_Frames_page : He.DefD := ⟨("Frames", some "page"), "page", "Frames.page", defArgs s_Frames__page, defBody s_Frames__page, defScope s_Frames__page, [], []⟩
def d_M_Frames_holds : He.DefD := ⟨("Frames", some "holds"), "holds", "Frames.holds", defArgs s_Frames__holds, defBody s_Frames__holds, defScope s_Frames__holds, [], []⟩
def d_M_Frames__ask_frame : He.DefD := ⟨("Frames", some "_ask_frame"), "_ask_frame", "Frames._ask_frame", defArgs s_Frames___ask_frame, defBody s_Frames___ask_frame, defScope s_Frames___ask_frame, [], []⟩
def d_M_Frames__ask_used : He.DefD := ⟨("Frames", some "_ask_used"), "_ask_used", "Frames._ask_used", defArgs s_Frames___ask_used, defBody s_Frames___ask_used, defScope s_Frames___ask_used, [], []⟩
def d_M_Frames_take : He.DefD := ⟨("Frames", some "take"), "take", "Frames.take", defArgs s_Frames__take, defBody s_Frames__take, defScope s_Frames__take, [.non], []⟩
def d_M_Frames___init__ : He.DefD := ⟨("Frames", some "__init__"), "__init__", "Frames.__init__", defArgs s_Frames____init__, defBody s_Frames____init__, defScope s_Frames____init__, [], []⟩
def d_M_Space_read : He.DefD := ⟨("Space", some "read"), "read", "Space.read", defArgs s_Space__read, defBody s_Space__read, defScope s_Space__read, [], []⟩
def d_M_Space_write : He.DefD := ⟨("Space", some "write"), "write", "Space.write", defArgs s_Space__write, defBody s_Space__write, defScope s_Space__write, [], []⟩
def d_M_Space_contents : He.DefD := ⟨("Space", some "contents"), "contents", "Space.contents", defArgs s_Space__contents, defBody s_Space__contents, defScope s_Space__contents, [], []⟩
def d_M_Space_fork : He.DefD := ⟨("Space", some "fork"), "fork", "Space.fork", defArgs s_Space__fork, defBody s_Space__fork, defScope s_Space__fork, [], []⟩
def d_M_Space_close : He.DefD := ⟨("Space", some "close"), "close", "Space.close", defArgs s_Space__close, defBody s_Space__close, defScope s_Space__close, [], []⟩
def d_M_Space_table : He.DefD := ⟨("Space", some "table"), "table", "Space.table", defArgs s_Space__table, defBody s_Space__table, defScope s_Space__table, [], []⟩
def d_M_Space___getitem__ : He.DefD := ⟨("Space", some "__getitem__"), "__getitem__", "Space.__getitem__", defArgs s_Space____getitem__, defBody s_Space____getitem__, defScope s_Space____getitem__, [], []⟩
def d_M_Space___setitem__ : He.DefD := ⟨("Space", some "__setitem__"), "__setitem__", "Space.__setitem__", defArgs s_Space____setitem__, defBody s_Space____setitem__, defScope s_Space____setitem__, [], []⟩
def d_M_Space__word_at : He.DefD := ⟨("Space", some "_word_at"), "_word_at", "Space._word_at", defArgs s_Space___word_at, defBody s_Space___word_at, defScope s_Space___word_at, [], []⟩
def d_M_Space__own_frame : He.DefD := ⟨("Space", some "_own_frame"), "_own_frame", "Space._own_frame", defArgs s_Space___own_frame, defBody s_Space___own_frame, defScope s_Space___own_frame, [], []⟩
def d_M_Space__ask_address : He.DefD := ⟨("Space", some "_ask_address"), "_ask_address", "Space._ask_address", defArgs s_Space___ask_address, defBody s_Space___ask_address, defScope s_Space___ask_address, [], []⟩
def d_M_Space__ask_unclosed : He.DefD := ⟨("Space", some "_ask_unclosed"), "_ask_unclosed", "Space._ask_unclosed", defArgs s_Space___ask_unclosed, defBody s_Space___ask_unclosed, defScope s_Space___ask_unclosed, [], []⟩
def d_M_Space___init__ : He.DefD := ⟨("Space", some "__init__"), "__init__", "Space.__init__", defArgs s_Space____init__, defBody s_Space____init__, defScope s_Space____init__, [], [("pages", .int 4)]⟩
def d_E_Unknown : He.DefD := ⟨("Unknown", some "__init__"), "__init__", "Unknown.__init__", defArgs s_Unknown____init__, defBody s_Unknown____init__, defScope s_Unknown____init__, [], []⟩
def fn0 : List He.DefD := [d_is_integer, d_is_in_range, d_is_word, d_are_words, d_is_list_of_words, d_ask_range, d_ask_word, d_ask_words, d__law_mixed, d__law_store, d__law_take, d__law_between]
def fn1 : List He.DefD := [d__law_size, d__law_word, d__law_pick, d__law_alike, d__law_copy, d__law_error, d__law_space_calls, d__law_holds, d__law_write, d__law_read, d__law_looks, d__law_page]
def fn2 : List He.DefD := [d__law_whole, d__law_step, d_law, d_M_Frames_share, d_M_Frames_drop, d_M_Frames_peek, d_M_Frames_poke, d_M_Frames_page, d_M_Frames_holds, d_M_Frames__ask_frame, d_M_Frames__ask_used, d_M_Frames_take]
def fn3 : List He.DefD := [d_M_Frames___init__, d_M_Space_read, d_M_Space_write, d_M_Space_contents, d_M_Space_fork, d_M_Space_close, d_M_Space_table, d_M_Space___getitem__, d_M_Space___setitem__, d_M_Space__word_at, d_M_Space__own_frame, d_M_Space__ask_address]
def fn4 : List He.DefD := [d_M_Space__ask_unclosed, d_M_Space___init__, d_E_Unknown]
def fn : List He.DefD := fn0 ++ (fn1 ++ (fn2 ++ (fn3 ++ (fn4))))
def fa0 : List He.Fa := [.glo "is_integer", .glo "is_in_range", .glo "is_word", .glo "are_words", .glo "is_list_of_words", .glo "ask_range", .glo "ask_word", .glo "ask_words", .glo "_law_mixed", .glo "_law_store", .glo "_law_take", .glo "_law_between"]
def fa1 : List He.Fa := [.glo "_law_size", .glo "_law_word", .glo "_law_pick", .glo "_law_alike", .glo "_law_copy", .glo "_law_error", .glo "_law_space_calls", .glo "_law_holds", .glo "_law_write", .glo "_law_read", .glo "_law_looks", .glo "_law_page"]
def fa2 : List He.Fa := [.glo "_law_whole", .glo "_law_step", .glo "law", .int "WORDS" 65536, .glo "Frames", .cls "Frames", .noat "Frames" "_holds", .noat "Frames" "_pages", .mkr "Frames", .meth "Frames" "share", .meth "Frames" "drop", .meth "Frames" "peek"]
def fa3 : List He.Fa := [.meth "Frames" "poke", .meth "Frames" "page", .meth "Frames" "holds", .meth "Frames" "_ask_frame", .meth "Frames" "_ask_used", .meth "Frames" "take", .glo "Space", .cls "Space", .noat "Space" "_frames", .noat "Space" "_table", .noat "Space" "_closed", .mkr "Space"]
def fa4 : List He.Fa := [.meth "Space" "read", .meth "Space" "write", .meth "Space" "contents", .meth "Space" "fork", .meth "Space" "close", .meth "Space" "table", .meth "Space" "__getitem__", .meth "Space" "__setitem__", .meth "Space" "_word_at", .meth "Space" "_own_frame", .meth "Space" "_ask_address", .meth "Space" "_ask_unclosed"]
def fa5 : List He.Fa := [.free "int", .free "len", .free "range", .free "list", .free "abs", .free "min", .free "max", .free "isinstance", .free "bool", .free "str", .free "tuple", .free "dict"]
def fa6 : List He.Fa := [.free "sorted", .free "all", .free "any", .free "zip", .free "enumerate", .free "sum"]
def fa : List He.Fa := fa0 ++ (fa1 ++ (fa2 ++ (fa3 ++ (fa4 ++ (fa5 ++ (fa6))))))
def tf : List He.Defn := [("are_words", none)]
def d_S_Frames_free : He5.DefA := ⟨fun K => He5.wf K (He.ga K "Frames") "property" "free", "free", "Frames.free", defArgs s_Frames__free, defBody s_Frames__free, defScope s_Frames__free, [], []⟩
def axs : List He5.DefA := [d_S_Frames_free]
def NN : Nat := 6
abbrev AlY : Type := He.AlX × He.AlD
def asY (g : Addr → Option Obj) : List Addr := He.asD g NN ++ [cStatics]
def obsY (g : Addr → Option Obj) : AlY := (obsA (asY g) fa fn tf ex g, He5.obsA [] axs (He.frT g (asY g)))
theorem saysY (w : World) (s : Shared) (e : obsY s.heap.get? = (He.valX fn [] w, He5.valA axs)) : ∃ K : PySem.W.Frag, K.In s.heap ∧ He.SaysX fa fn [] tf ex w s.heap K ∧ He5.SaysA [] axs K := by
  obtain ⟨e1, e2⟩ := Prod.mk.inj (show (obsA (asY s.heap.get?) fa fn tf ex s.heap.get?, He5.obsA [] axs (He.frT s.heap.get? (asY s.heap.get?))) = (He.valX fn [] w, He5.valA axs) from e)
  exact ⟨He.frT s.heap.get? (asY s.heap.get?), He.frT_in, saysA e1, e2⟩
def hookY : PySem.W.Hook where
  α := AlY
  obs := fun s => obsY s.heap.get?
  val := fun w => (He.valX fn [] w, He5.valA axs)
  says := fun w h => ∃ K : PySem.W.Frag, K.In h ∧ He.SaysX fa fn [] tf ex w h K ∧ He5.SaysA [] axs K
  of := fun _ s e => saysY _ s e
  keeps := fun _ _ _ ⟨K, hK, c, q⟩ k => ⟨K, PySem.W.Frag.In.keeps hK k, ⟨c.t, c.more, c.hd, c.out, fun p hp => k _ _ (c.empty p hp)⟩, q⟩
def ob (s : PySem.W.SharedT) : AlY := obsY (HandSHeadRun.getT s)
theorem ob_eq (s : PySem.W.SharedT) : ob s = hookY.obs s.abs := by
  show obsY (HandSHeadRun.getT s) = obsY s.abs.heap.get?
  rw [show HandSHeadRun.getT s = s.abs.heap.get? from funext (HandSHeadRun.getT_eq s)]
abbrev R : PySem.W.OpenRow := PySem.W.OpenLaw.row PySem.Challenge.rw_wardwork_k05_whole_holds_are_pages
def loose0 : List Str := ["WardError", "SourceError", "BadArgument", "BadText", "LabelTwice", "LabelMissing", "TooLong", "Unknown", "Taken", "NotAllowed", "WrongState", "RingOfWaits"]
def loose1 : List Str := ["Full", "Stopped", "Space", "Frames", "WORDS", "is_integer", "is_in_range", "is_word", "are_words", "is_list_of_words", "ask_range", "ask_word"]
def loose2 : List Str := ["ask_words", "_law_mixed", "_law_store", "_law_take", "_law_between", "_law_size", "_law_word", "_law_pick", "_law_alike", "_law_copy", "_law_error", "_law_space_calls"]
def loose3 : List Str := ["_law_holds", "_law_write", "_law_read", "_law_looks", "_law_page", "_law_whole", "_law_step"]
def loose : List Str := loose0 ++ (loose1 ++ (loose2 ++ (loose3)))
end K05
namespace K05
open PySem PySem.Spec PyProof.Rows L2 Wk
theorem run (w : World) : HandSHeadRun.RunEq R (PySem.W.view R.prog [48]) hookY ob 20000 loose w := by
  intro os
  kernel_rfl
end K05
set_option Elab.async false
set_option linter.all false
set_option maxRecDepth 100000
set_option maxHeartbeats 4000000
namespace K05
open PySem PySem.Spec PyProof.Rows L2 Wk
local macro_rules | `(tactic| walk_at "u1") => `(tactic| fail "no more")
local macro_rules | `(tactic| walk_at "pos") => `(tactic| first | assumption | omega | decide | (simp only [Int.ofNat_eq_natCast] at *; omega))
local macro_rules | `(tactic| walk_at "sz") => `(tactic| first
  | (simp only [List.length_cons, List.length_nil]; decide)
  | exact Evl.sz_of (by omega)
  | exact Evl.sz_lt (by omega)
  | exact Evl.sz_of (by simp only [List.length_map, List.length_append, List.length_cons, List.length_nil, List.length_replicate]; omega)
  | exact Evl.sz_lt (by simp only [List.length_map, List.length_append, List.length_cons, List.length_nil, List.length_replicate]; omega))
local macro_rules | `(tactic| walk_at "cond") => `(tactic| first
  | exact Or.inr ⟨by decide, by decide⟩
  | (show (0 : Int) < _; first | decide | assumption | omega)
  | exact Or.inl ⟨by omega, by omega⟩
  | exact Or.inr ⟨by omega, by omega⟩
  | exact ⟨by decide, by decide, by decide⟩
  | exact log2_lt (by omega) (by omega)
  | exact ⟨by omega, by omega⟩)
local macro_rules | `(tactic| walk_at "ty") => `(tactic| first
  | exact ty_int | exact ty_bl | exact ty_str | exact ty_non
  | exact ty_L (by assumption) | exact ty_T (by assumption)
  | exact ty_L (SqL.of (by assumption)) | exact ty_T (SqT.of (by assumption)))
local macro_rules | `(tactic| walk_at "kit") => `(tactic| first
  | exact k_ii | exact k_ib | exact k_is | exact k_il | exact k_it
  | exact k_bb | exact k_bi | exact k_bs | exact k_bl | exact k_bt
  | exact k_ss | exact k_sb | exact k_si | exact k_sl | exact k_st
  | exact k_ll | exact k_lb | exact k_li | exact k_ls | exact k_lt
  | exact k_tt | exact k_tb | exact k_ti | exact k_ts | exact k_tl
  | exact k_nn | exact k_ni | exact k_ns | exact k_nl | exact k_nt)
local macro_rules | `(tactic| walk_at "s1") => `(tactic| first
  | with_reducible refine w_seq ?_
  | with_reducible refine w_set ?_
  | with_reducible refine w_op ?_
  | ((with_reducible refine' w_var ?h1 ?_); (case h1 => rfl))
  | with_reducible refine w_c ?_
  | with_reducible refine w_cb ?_
  | with_reducible refine w_cons ?_
  | with_reducible refine w_nil ?_
  | with_reducible refine w_I0 ?_
  | ((with_reducible refine' w_I ?c1 ?_); case c1 => walk_at "cond")
  | with_reducible refine w_ret ?_
  | with_reducible refine w_next ?_
  | with_reducible refine w_ifS ?_
  | with_reducible refine w_test ?_
  | with_reducible refine w_tB ?_
  | with_reducible refine w_k ?_
  | with_reducible refine w_eqI ?_
  | with_reducible refine w_neI ?_
  | with_reducible refine w_eqS ?_
  | with_reducible refine w_neS ?_
  | with_reducible refine w_and ?_
  | with_reducible refine w_or ?_
  | with_reducible refine w_not ?_
  | with_reducible refine w_andV ?_
  | with_reducible refine w_orV ?_
  | with_reducible refine w_notV ?_
  | with_reducible refine w_ifE ?_
  | with_reducible refine w_true ?_
  | with_reducible refine w_false ?_
  | with_reducible refine w_ntrue ?_
  | with_reducible refine w_nfalse ?_
  | with_reducible refine w_call ?_
  | with_reducible refine c_int ?_
  | with_reducible refine c_abs ?_
  | with_reducible refine c_max ?_
  | with_reducible refine c_min ?_
  | with_reducible refine w_drop ?_
  | with_reducible refine w_sfld ?_
  | with_reducible refine w_meth ?_
  | with_reducible refine w_make ?_
  | with_reducible refine w_prop ?_
  | with_reducible refine w_callK ?_
  | with_reducible refine w_callN ?_
  | with_reducible refine w_star ?_
  | with_reducible refine w_gcons ?_
  | with_reducible refine w_gname ?_
  | with_reducible refine w_gnil ?_
  | with_reducible refine w_retN ?_
  | with_reducible refine w_tup ?_
  | with_reducible refine w_lst ?_
  | with_reducible refine w_fld ?_
  | with_reducible refine w_bm ?_
  | with_reducible refine w_bm0 ?_
  | with_reducible refine w_forL ?_
  | with_reducible refine w_forT ?_
  | with_reducible refine w_forS ?_
  | with_reducible refine w_forR ?_
  | with_reducible refine w_lcR ?_
  | with_reducible refine w_lcL ?_
  | with_reducible refine w_lcT ?_
  | with_reducible refine w_isN ?_
  | with_reducible refine w_notN ?_
  | with_reducible refine w_asg ?_
  | with_reducible refine w_gsub ?_
  | ((with_reducible refine' w_aug ?h1 ?_); (case h1 => rfl))
  | with_reducible refine w_augS ?_
  | with_reducible refine w_ipI ?_
  | with_reducible refine w_un ?_
  | with_reducible refine w_U ?_
  | ((with_reducible refine' w_iteF ?f1 ?_); case f1 => (first | (intro h; cases h; done) | decide))
  | ((with_reducible refine' w_iteT ?f1 ?_); case f1 => rfl)
  | ((with_reducible refine' w_iteNF ?f1 ?_); case f1 => rfl)
  | ((with_reducible refine' w_iteNT ?f1 ?_); case f1 => (first | (intro h; cases h; done) | decide))
  | ((with_reducible refine' c_isi ?t1 ?k1 ?_); (case t1 => walk_at "ty"); (case k1 => walk_at "kit"))
  | ((with_reducible refine' w_eq ?e1 ?_); case e1 => rfl)
  | ((with_reducible refine' w_ne ?e1 ?_); case e1 => rfl)
  | walk_at "u1")
local macro_rules | `(tactic| walk_at "s") => `(tactic| repeat walk_at "s1")
local macro_rules | `(tactic| walk_at "mem") => `(tactic| first | with_reducible exact List.mem_cons_self .. | ((with_reducible refine' List.mem_cons_of_mem _ ?q); (case q => walk_at "mem")) | assumption | ((with_reducible refine' List.mem_append_right _ ?q); (case q => walk_at "mem")) | (exact List.mem_append_left _ (by assumption)))
local macro_rules | `(tactic| walk_at "pk") => `(tactic| first | with_reducible exact Pk.here | ((with_reducible refine' Pk.there ?q); (case q => walk_at "pk")) | ((with_reducible refine' Pk.app ?q); (case q => walk_at "pk")))
local macro_rules | `(tactic| walk_at "pkb") => `(tactic| first | with_reducible exact PkB.here | ((with_reducible refine' PkB.there ?q); (case q => walk_at "pkb")) | ((with_reducible refine' PkB.app ?q); (case q => walk_at "pkb")))
local macro_rules | `(tactic| walk_at "spl") => `(tactic| first | with_reducible exact Spl.nil | ((with_reducible refine' Spl.cons ?h ?t); (case h => walk_at "pk"); (case t => walk_at "spl")) | ((with_reducible refine' Spl.blk ?h ?t); (case h => walk_at "pkb"); (case t => walk_at "spl")))
local macro_rules | `(tactic| walk_at "sbx") => `(tactic| first | with_reducible exact Sb.refl | with_reducible exact Sb.nil | with_reducible exact Sb.left | ((with_reducible refine' Sb.cons ?h ?t); (case h => walk_at "pk"); (case t => walk_at "sbx")) | ((with_reducible refine' Sb.blk ?h ?t); (case h => walk_at "pkb"); (case t => walk_at "sbx")) | ((with_reducible refine' Sb.drop ?q); (case q => walk_at "sbx")) | ((with_reducible refine' Sb.right ?q); (case q => walk_at "sbx")))
local macro_rules | `(tactic| walk_at "hd") => `(tactic| first | assumption | exact Hd.sb (by assumption) (by walk_at "sbx"))
local macro_rules | `(tactic| walk_at "sq") => `(tactic| first
  | assumption
  | exact Hd.sqL (by assumption) (by walk_at "mem")
  | exact Hd.sqT (by assumption) (by walk_at "mem")
  | exact Hd.sqF (by assumption) (by walk_at "mem")
  | (refine .inl ?_; walk_at "sq")
  | (refine .inr ?_; walk_at "sq"))
local macro_rules | `(tactic| walk_at "at") => `(tactic| first | rfl | assumption | exact atI_nat (by assumption))
local macro_rules | `(tactic| walk_at "dn1") => `(tactic| first
  | exact Dn.int | exact Dn.str | exact Dn.non | exact Dn.bl | assumption
  | ((refine' Dn.tp ?a1 ?m1 ?l1 ?p1); (case a1 => assumption); (case m1 => walk_at "mem"); (case l1 => (simp only [List.length_cons, List.length_nil]; omega)); (case p1 => walk_at "dns"))
  | ((refine' Dn.lt ?a1 ?m1 ?l1 ?p1); (case a1 => assumption); (case m1 => walk_at "mem"); (case l1 => (simp only [List.length_cons, List.length_nil]; omega)); (case p1 => walk_at "dns")))
local macro_rules | `(tactic| walk_at "dns") => `(tactic| first | exact Paired.nil | exact Dn.ints | ((refine' Paired.cons ?a1 ?b1); (case a1 => walk_at "dn1"); (case b1 => walk_at "dns")))
local macro_rules | `(tactic| walk_at "g1") => `(tactic| first
  | ((with_reducible refine' g_ixI ?h1 ?h2 ?h3 ?_); (case h1 => assumption); (case h2 => walk_at "mem"); (case h3 => omega); intro z hz)
  | ((with_reducible refine' g_ixIT ?h1 ?h2 ?h3 ?_); (case h1 => assumption); (case h2 => walk_at "mem"); (case h3 => omega); intro z hz)
  | ((with_reducible refine' g_setI ?h1 ?h2 ?h3 ?_); (case h1 => assumption); (case h2 => walk_at "pk"); (case h3 => omega); intro H2 hh2)
  | ((with_reducible refine' w_ixL ?h1 ?h2 ?_); (case h1 => walk_at "sq"); (case h2 => walk_at "at"))
  | ((with_reducible refine' w_ixT ?h1 ?h2 ?_); (case h1 => walk_at "sq"); (case h2 => walk_at "at"))
  | ((with_reducible refine' w_ixAny ?h1 ?h2 ?_); (case h1 => walk_at "sq"); (case h2 => walk_at "at"))
  | ((with_reducible refine' c_lenA ?h1 ?_); (case h1 => walk_at "sq"))
  | ((with_reducible refine' c_isi ?t1 ?k1 ?_); (case t1 => first | exact ty_T (by walk_at "sq") | exact ty_L (by walk_at "sq")); (case k1 => walk_at "kit"))
  | ((with_reducible refine' g_lst ?h1 ?h2 ?_); (case h1 => assumption); (case h2 => walk_at "sz"); intro p H2 hh2)
  | ((with_reducible refine' g_tup ?h1 ?h2 ?_); (case h1 => assumption); (case h2 => walk_at "sz"); intro p H2 hh2)
  | ((with_reducible refine' g_dict ?h1 ?_); (case h1 => assumption); intro p H2 hh2)
  | ((with_reducible refine' g_listL ?h1 ?h2 ?_); (case h1 => assumption); (case h2 => walk_at "sq"); intro p H2 hh2)
  | ((with_reducible refine' g_listT ?h1 ?h2 ?_); (case h1 => assumption); (case h2 => walk_at "sq"); intro p H2 hh2)
  | ((with_reducible refine' g_tupL ?h1 ?h2 ?_); (case h1 => assumption); (case h2 => walk_at "sq"); intro p H2 hh2)
  | ((with_reducible refine' g_set ?h1 ?h2 ?h3 ?_); (case h1 => assumption); (case h2 => walk_at "pk"); (case h3 => first | rfl | assumption | exact Evl.ixN_nat (by first | omega | (simp only [List.length_cons, List.length_nil]; omega))); intro H2 hh2)
  | ((with_reducible refine' g_kbm ?h1 ?h2 ?_); (case h1 => assumption); (case h2 => walk_at "mem"))
  | ((with_reducible refine' g_kbm0 ?h1 ?h2 ?_); (case h1 => assumption); (case h2 => walk_at "mem"))
  | ((with_reducible refine' g_app ?h1 ?h2 ?h3 ?_); (case h1 => assumption); (case h2 => walk_at "pk"); (case h3 => walk_at "sz"); intro H2 hh2)
  | ((with_reducible refine' g_kapp ?h1 ?h2 ?h3 ?_); (case h1 => assumption); (case h2 => walk_at "pk"); (case h3 => walk_at "sz"); intro H2 hh2)
  | ((with_reducible refine' g_fld ?h1 ?h2 ?h3 ?h4 ?h5 ?_); (case h1 => assumption); (case h2 => walk_at "mem"); (case h3 => assumption); (case h4 => assumption); (case h5 => rfl))
  | ((with_reducible refine' g_sfld ?h1 ?h2 ?h3 ?h4 ?h5 ?_); (case h1 => assumption); (case h2 => walk_at "pk"); (case h3 => assumption); (case h4 => assumption); (case h5 => decide); intro H2 hh2)
  | ((with_reducible refine' g_meth ?h1 ?h2 ?h3 ?_); (case h1 => assumption); (case h2 => walk_at "mem"); (case h3 => rfl))
  | ((with_reducible refine' g_prop ?h1 ?h2 ?_); (case h1 => assumption); (case h2 => walk_at "mem"))
  | ((with_reducible refine' g_make ?h1 ?_); (case h1 => assumption); intro x H2 hh2)
  | ((with_reducible refine' g_cat ?h1 ?h2 ?h3 ?h4 ?_); (case h1 => assumption); (case h2 => walk_at "mem"); (case h3 => walk_at "mem"); (case h4 => walk_at "sz"); intro p H2 hh2)
  | ((with_reducible refine' g_inT ?h1 ?h2 ?h3 ?h4 ?h5 ?_); (case h1 => assumption); (case h2 => walk_at "mem"); (case h3 => rfl); (case h4 => rfl); (case h5 => rfl)))
local macro_rules | `(tactic| walk_at "gs") => `(tactic| repeat first | walk_at "s1" | walk_at "g1")
local macro_rules | `(tactic| walk_at "ite") => `(tactic| first
  | ((with_reducible refine' w_iteT ?h1 ?_); (case h1 => omega))
  | ((with_reducible refine' w_iteF ?h1 ?_); (case h1 => omega))
  | (with_reducible refine w_ite ?_ ?_ <;> intro hq)
  | ((with_reducible refine' w_iteNT ?h1 ?_); (case h1 => omega))
  | ((with_reducible refine' w_iteNF ?h1 ?_); (case h1 => omega))
  | (with_reducible refine w_iteN ?_ ?_ <;> intro hq))
local macro_rules | `(tactic| walk_at "go") => `(tactic| repeat' first | walk_at "s1" | walk_at "g1" | walk_at "ite")
section
variable {P : Program} {w : World} {K : PySem.W.Frag} {mg : Str → Option Value} {base : Heap} {aREG aOPS : Addr}
/-! ### the draws: what every law draws with -/
/-- the store of draws at st, the script's cells at c -/
def StoreAt (H : Hp) (st c : Addr) : Prop := ∃ (ns : List Int) (i b t z : Int), H st = some (.lst [.ref c, .int i, .int b, .int t, .int z]) ∧ H c = some (.lst (ns.map V.int)) ∧ 0 ≤ i ∧ 0 ≤ b ∧ 0 ≤ z ∧ z < 2147483647
theorem StoreAt.ne {H : Hp} {st c : Addr} (S : StoreAt H st c) : c ≠ st := by
  obtain ⟨ns, i, b, t, z, h1, h2, _⟩ := S
  refine ne_of h2 h1 fun e => ?_
  cases ns with
  | nil => cases e
  | cons n ns => cases e
theorem StoreAt.upt {H H' : Hp} {st c : Addr} {S : List Addr} (s : StoreAt H st c) (u : Upt S H H') (h1 : st ∉ S) (h2 : c ∉ S) : StoreAt H' st c := by
  obtain ⟨ns, i, b, t, z, e1, e2, r⟩ := s
  exact ⟨ns, i, b, t, z, u _ _ h1 e1, u _ _ h2 e2, r⟩
theorem StoreAt.new {H H' : Hp} {st c p : Addr} {o : HO} (s : StoreAt H st c) (n : New H H' p o) : StoreAt H' st c := s.upt n.keep (by simp) (by simp)
theorem StoreAt.off {H H' : Hp} {st c p : Addr} {o : HO} (s : StoreAt H st c) (n : New H H' p o) : p ≠ st ∧ p ≠ c := by
  obtain ⟨ns, i, b, t, z, e1, e2, r⟩ := s
  exact ⟨n.ne' e1, n.ne' e2⟩
theorem StoreAt.chg {H H' : Hp} {st c p : Addr} {o : HO} (s : StoreAt H st c) (n : Chg H H' p o) (h1 : p ≠ st) (h2 : p ≠ c) : StoreAt H' st c := s.upt n.keep (fun z => h1 (List.mem_singleton.mp z).symm) (fun z => h2 (List.mem_singleton.mp z).symm)
theorem store_chg {H H' : Hp} {st c : Addr} {ns : List Int} {i b t z : Int} (n : Chg H H' st (.lst [.ref c, .int i, .int b, .int t, .int z])) (e : H c = some (.lst (ns.map V.int))) (ne : c ≠ st) (h1 : 0 ≤ i) (h2 : 0 ≤ b) (h3 : 0 ≤ z) (h4 : z < 2147483647) : StoreAt H' st c :=
  ⟨ns, i, b, t, z, n.at_, n.keep.at1 ne e, h1, h2, h3, h4⟩
/-- a number that is drawn: how the store and the heap may stand behind it -/
def Drawn (st c : Addr) (H : Hp) (P : Int → Prop) (Q : VK) : Prop := ∀ (k : Int) (H' : Hp), P k → StoreAt H' st c → Upt [st] H H' → Q (.int k) H'
/-- number and turn give something from 0 to many - 1 -/
def sp_mixed : Sp := fun vs H Q _ => ∃ n t m : Int, vs = [.int n, .int t, .int m] ∧ 0 < m ∧ ∀ k : Int, 0 ≤ k → k < m → Q (.int k) H
theorem c_mixed (T : Txt K mg aREG aOPS) (d : DefAt K mg "_law_mixed" s__law_mixed) : C8.Cal P w K mg base 1 "_law_mixed" sp_mixed [] := by
  refine mk d sc__law_mixed (fun _ _ _ _ _ _ us hl => match us, hl with | [_, _, _], _ => rfl) (fun vs H Q E h => ?_) (fun f cdv A outer s H vs Q E hr h => ?_)
  · obtain ⟨n, t, m, rfl, _⟩ := h
    rfl
  · obtain ⟨n, t, m, rfl, hm, k⟩ := h
    refine ⟨_, (pss_cons (ps_set (i := 3) sc__law_mixed.nd rfl (Or.inl rfl) (pe_op op_mod (pe_callTy Wk.b_int (by rfl) T.b_int (by decide +kernel) (pa_cons (pe_op op_add (pe_op op_add (pe_op op_mul (pe_callTy Wk.b_int (by rfl) T.b_int (by decide +kernel) (pa_cons (pv 0) pa_nil)) pe_int) (pe_op op_mul (pe_callTy Wk.b_int (by rfl) T.b_int (by decide +kernel) (pa_cons (pv 1) pa_nil)) pe_int)) pe_int) pa_nil)) pe_int))
  (pss_cons (ps_set (i := 4) sc__law_mixed.nd rfl (Or.inl rfl) (pe_op op_mod (pe_callTy Wk.b_int (by rfl) T.b_int (by decide +kernel) (pa_cons (pe_op op_add (pe_op op_add (pe_op op_mul (pv 3) (pv 3)) (pe_op op_mul (pe_callTy Wk.b_int (by rfl) T.b_int (by decide +kernel) (pa_cons (pv 1) pa_nil)) pe_int)) pe_int) pa_nil)) pe_int))
  (pss_cons (ps_set (i := 5) sc__law_mixed.nd rfl (Or.inl rfl) (pe_op op_mod (pe_callTy Wk.b_int (by rfl) T.b_int (by decide +kernel) (pa_cons (pe_op op_add (pe_op op_mul (pv 4) (pv 4)) (pv 3)) pa_nil)) pe_int))
  (pss_cons (ps_if (pt_cmpR op_gt (pv 2) pe_int (nomark _))
    (pss_one (ps_ret (pe_op op_mod (pe_callTy Wk.b_int (by rfl) T.b_int (by decide +kernel) (pa_cons (pe_op op_add (pe_op op_mul (pv 4) pe_int) (pv 5)) pa_nil)) (pv 2))))
    pss_nil)
  (pss_one (ps_ret (pe_op op_mod (pv 5) (pv 2)))))))), ?_⟩
    walk_at "s"
    refine w_ite (fun h1 => ?_) (fun h1 => ?_)
    all_goals walk_at "s"
    all_goals exact k _ (Int.emod_nonneg _ (by omega)) (Int.emod_lt_of_pos _ hm)
theorem u_mixed {n t m : Int} {H : Hp} {Q : VK} {E : XK} (hm : 0 < m) (q : ∀ k : Int, 0 ≤ k → k < m → Q (.int k) H) : sp_mixed [.int n, .int t, .int m] H Q E := ⟨n, t, m, rfl, hm, q⟩
def sp_store (K : PySem.W.Frag) : Sp := fun vs H Q _ => ∃ (a : Addr) (ns : List Int) (salt : Int), vs = [.ref a, .int salt] ∧ SqL K H a (ns.map V.int) ∧ ns.length ≤ 63 ∧ 0 ≤ salt ∧ salt ≤ 200000 ∧
  ∀ st c H', H st = none → H c = none → StoreAt H' st c → Upt [] H H' → Q (.ref st) H'
theorem c_store (T : Txt K mg aREG aOPS) (d : DefAt K mg "_law_store" s__law_store) : C8.Cal P w K mg base 1 "_law_store" (sp_store K) [] := by
  refine mk d sc__law_store (fun _ _ _ _ _ _ us hl => match us, hl with | [_, _], _ => rfl) (fun vs H Q E h => ?_) (fun f cdv A outer s H vs Q E hr h => ?_)
  · obtain ⟨a, ns, z, rfl, _⟩ := h
    rfl
  · obtain ⟨a, ns, z, rfl, hS, hl, hz0, hz1, k⟩ := h
    refine ⟨_, (pss_cons (ps_set (i := 2) sc__law_store.nd rfl (Or.inl rfl) (pe_op op_add (pe_op op_mul (pv 1) pe_int) (pe_callB Wk.b_len (by rfl) T.b_len (by decide +kernel) (pa_cons (pv 0) pa_nil))))
  (pss_cons (ps_for PassesOwn.never rfl (pi_list (pv 0)) (pg_name (i := 3) sc__law_store.nd rfl (Or.inl rfl))
    (pss_one (ps_set (i := 2) sc__law_store.nd rfl (Or.inl rfl) (pe_op op_mod (pe_callTy Wk.b_int (by rfl) T.b_int (by decide +kernel) (pa_cons (pe_op op_add (pe_op op_add (pe_op op_mul (pv 2) pe_int) (pe_op op_mod (pe_callTy Wk.b_int (by rfl) T.b_int (by decide +kernel) (pa_cons (pv 3) pa_nil)) pe_int)) pe_int) pa_nil)) pe_int))))
  (pss_one (ps_ret (pe_lst (pa_cons (pe_callTy Wk.b_list (by rfl) T.b_list (by decide +kernel) (pa_cons (pv 0) pa_nil)) (pa_cons pe_int (pa_cons pe_int (pa_cons pe_int (pa_cons (pv 2) pa_nil)))))))))), ?_⟩
    walk_at "s"
    refine c_lenL hS ?_
    walk_at "s"
    refine l_list hS (fun i σ H2 => H2 = H ∧ ∃ (s : Int) (v : Option V), σ = [some (.ref a), some (.int z), some (.int s), v] ∧ 0 ≤ s ∧ s < 2147483647) ⟨rfl, _, _, rfl, ?_, ?_⟩ (fun i σ H2 _ ⟨e, _⟩ => by rw [e]; exact hS) ?_ ?_
    · rw [List.length_map]; omega
    · rw [List.length_map]; omega
    · rintro i y σ H2 hi ⟨rfl, s, v, rfl, h0, h1⟩
      obtain ⟨n, rfl⟩ := item_int hi
      walk_at "s"
      exact ⟨rfl, _, _, rfl, Int.emod_nonneg _ (by omega), Int.emod_lt_of_pos _ (by omega)⟩
    · rintro σ H2 ⟨rfl, s, v, rfl, h0, h1⟩
      walk_at "s"
      refine c_listL hS fun c H3 n3 => ?_
      walk_at "s"
      refine w_new (by walk_at "sz") fun st H4 n4 => ?_
      have e := n4.keep.at0 n3.at_
      exact k st c H4 (n3.keep.free (by simp) n4.no) n3.no ⟨ns, 0, 0, 0, s, n4.at_, e, by omega, by omega, h0, h1⟩ (n3.keep.trans n4.keep)
theorem u_store {a : Addr} {ns : List Int} {z : Int} {H : Hp} {Q : VK} {E : XK} (h : SqL K H a (ns.map V.int)) (hl : ns.length ≤ 63) (h0 : 0 ≤ z) (h1 : z ≤ 200000) (q : ∀ st c H', H st = none → H c = none → StoreAt H' st c → Upt [] H H' → Q (.ref st) H') : sp_store K [.ref a, .int z] H Q E :=
  ⟨a, ns, z, rfl, h, hl, h0, h1, q⟩
def sp_take : Sp := fun vs H Q _ => ∃ (st c : Addr) (m : Int), vs = [.ref st, .int m] ∧ StoreAt H st c ∧ m ≤ 4611686018427387904 ∧ Drawn st c H (fun k => 0 ≤ k ∧ (k < m ∨ k = 0)) Q
theorem c_take (T : Txt K mg aREG aOPS) (d : DefAt K mg "_law_take" s__law_take) (c__law_mixed : C8.Cal P w K mg base 1 "_law_mixed" sp_mixed []) : C8.Cal P w K mg base 2 "_law_take" sp_take [] := by
  refine mk d sc__law_take (fun _ _ _ _ _ _ us hl => match us, hl with | [_, _], _ => rfl) (fun vs H Q E h => ?_) (fun f cdv A outer s H vs Q E hr h => ?_)
  · obtain ⟨st, c, m, rfl, _⟩ := h
    rfl
  · obtain ⟨st, c, m, rfl, S, hm, k⟩ := h
    have ne := S.ne
    obtain ⟨ns, i, b, t, z, h1, h2, hi, hb, hz0, hz1⟩ := S
    refine ⟨_, (pss_cons (ps_augS (pv 0) pe_int Wk.get_list pe_int ip_add set_list)
  (pss_cons (ps_if (pt_cmpR op_lt (pv 1) pe_int (nomark _))
    (pss_one (ps_ret pe_int))
    pss_nil)
  (C8.pss_cut (ps_if (PW.pt (pw_and (pt_cmpR op_eq (pe_ix ix_list (pv 0) pe_int (fun _ _ => rfl)) pe_int (nomark _)) (pw_and1 (pt_cmpR op_lt (pe_ix ix_list (pv 0) pe_int (fun _ _ => rfl)) (pe_callB Wk.b_len (by rfl) T.b_len (by decide +kernel) (pa_cons (pe_ix ix_list (pv 0) pe_int (fun _ _ => rfl)) pa_nil)) (nomark _)))))
    (pss_cons (ps_set (i := 2) sc__law_take.nd rfl (Or.inl rfl) (pe_callTy Wk.b_int (by rfl) T.b_int (by decide +kernel) (pa_cons (pe_ix ix_list (pe_ix ix_list (pv 0) pe_int (fun _ _ => rfl)) (pe_ix ix_list (pv 0) pe_int (fun _ _ => rfl)) (fun _ _ => rfl)) pa_nil)))
      (pss_cons (ps_augS (pv 0) pe_int Wk.get_list pe_int ip_add set_list)
      (pss_cons (ps_if (pt_cmpR op_lt (pe_callB Wk.b_abs (by rfl) T.b_abs (by decide +kernel) (pa_cons (pv 2) pa_nil)) (pe_op op_pow pe_int pe_int) (nomark _))
        (pss_one (ps_ret (C8.pe_c c__law_mixed hr (by first | decide | omega) rfl (pa_cons (pv 2) (pa_cons (pe_ix ix_list (pv 0) pe_int (fun _ _ => rfl)) (pa_cons (pv 1) pa_nil))))))
        pss_nil)
      (pss_one (ps_asg (pe_callB Wk.b_abs (by rfl) T.b_abs (by decide +kernel) (pa_cons (pv 2) pa_nil)) (pg_sub (pv 0) pe_int set_list))))))
    pss_nil)
  (pss_cons (ps_if (pt_cmpR op_eq (pe_ix ix_list (pv 0) pe_int (fun _ _ => rfl)) pe_int (nomark _))
    (pss_one (ps_ret (C8.pe_c c__law_mixed hr (by first | decide | omega) rfl (pa_cons (pe_ix ix_list (pv 0) pe_int (fun _ _ => rfl)) (pa_cons (pe_ix ix_list (pv 0) pe_int (fun _ _ => rfl)) (pa_cons (pv 1) pa_nil))))))
    pss_nil)
  (pss_cons (ps_set (i := 3) sc__law_take.nd rfl (Or.inl rfl) (pe_op op_mod (pe_callTy Wk.b_int (by rfl) T.b_int (by decide +kernel) (pa_cons (pe_ix ix_list (pv 0) pe_int (fun _ _ => rfl)) pa_nil)) (pv 1)))
  (pss_cons (ps_asg (pe_op op_fdivW (pe_callTy Wk.b_int (by rfl) T.b_int (by decide +kernel) (pa_cons (pe_ix ix_list (pv 0) pe_int (fun _ _ => rfl)) pa_nil)) (pv 1)) (pg_sub (pv 0) pe_int set_list))
  (pss_one (ps_ret (pv 3))))))))), ?_⟩
    walk_at "s"
    refine w_ixL (SqL.of h1) rfl ?_
    walk_at "s"
    refine w_setI h1 rfl fun H2 g2 => ?_
    walk_at "s"
    have a2 : H2 st = some (.lst [.ref c, .int i, .int b, .int (t + 1), .int z]) := g2.at_
    have e2 : H2 c = some (.lst (ns.map V.int)) := g2.keep.at1 ne h2
    refine w_ite (fun q1 => ?_) (fun q1 => ?_)
    · walk_at "s"
      exact k 0 H2 ⟨by omega, .inr rfl⟩ (store_chg g2 h2 ne hi hb hz0 hz1) g2.keep
    · walk_at "s"
      refine w_cut (fun σ H3 => Upt [st] H H3 ∧ H3 c = some (.lst (ns.map V.int)) ∧ ∃ (i b : Int) (v : Option V), 0 ≤ i ∧ 0 ≤ b ∧ H3 st = some (.lst [.ref c, .int i, .int b, .int (t + 1), .int z]) ∧ σ = [some (.ref st), some (.int m), v, none]) ?_ ?_
      · walk_at "s"
        refine w_ixL (SqL.of a2) rfl ?_
        walk_at "s"
        refine w_ite (fun q2 => ?_) (fun q2 => ?_)
        · walk_at "s"
          refine w_ixL (SqL.of a2) rfl ?_
          walk_at "s"
          refine w_ixL (SqL.of a2) rfl ?_
          walk_at "s"
          refine c_lenL (SqL.of e2) ?_
          walk_at "s"
          rw [List.length_map]
          refine w_ite (fun q3 => ?_) (fun q3 => ?_)
          · obtain ⟨n, hn, hat⟩ := atI_ints hi q3
            walk_at "s"
            refine w_ixL (SqL.of a2) rfl ?_
            walk_at "s"
            refine w_ixL (SqL.of a2) rfl ?_
            walk_at "s"
            refine w_ixL (SqL.of e2) hat ?_
            walk_at "s"
            refine w_ixL (SqL.of a2) rfl ?_
            walk_at "s"
            refine w_setI a2 rfl fun H3 g3 => ?_
            walk_at "s"
            have a3 : H3 st = some (.lst [.ref c, .int (i + 1), .int b, .int (t + 1), .int z]) := g3.at_
            have e3 : H3 c = some (.lst (ns.map V.int)) := g3.keep.at1 ne e2
            refine w_ite (fun q4 => ?_) (fun q4 => ?_)
            · walk_at "s"
              refine w_ixL (SqL.of a3) rfl ?_
              walk_at "s"
              refine u_mixed (by omega) fun v hv0 hv1 => ?_
              exact k v H3 ⟨hv0, .inl hv1⟩ ⟨ns, _, _, _, _, a3, e3, by omega, hb, hz0, hz1⟩ (g2.keep.trans g3.keep)
            · walk_at "s"
              refine w_setI a3 rfl fun H4 g4 => ?_
              walk_at "s"
              have hb4 : 0 ≤ (if n < 0 then -n else n) := by split <;> omega
              exact ⟨(g2.keep.trans g3.keep).trans g4.keep, g4.keep.at1 ne e3, _, _, _, by omega, hb4, g4.at_, rfl⟩
          · walk_at "s"
            exact ⟨g2.keep, e2, _, _, _, hi, hb, a2, rfl⟩
        · walk_at "s"
          exact ⟨g2.keep, e2, _, _, _, hi, hb, a2, rfl⟩
      · rintro σ H3 ⟨u3, e3, i3, b3, v, hi3, hb3, a3, rfl⟩
        walk_at "s"
        refine w_ixL (SqL.of a3) rfl ?_
        walk_at "s"
        refine w_ite (fun q2 => ?_) (fun q2 => ?_)
        · walk_at "s"
          refine w_ixL (SqL.of a3) rfl ?_
          walk_at "s"
          refine w_ixL (SqL.of a3) rfl ?_
          walk_at "s"
          refine u_mixed (by omega) fun v hv0 hv1 => ?_
          exact k v H3 ⟨hv0, .inl hv1⟩ ⟨ns, _, _, _, _, a3, e3, hi3, hb3, hz0, hz1⟩ u3
        · walk_at "s"
          refine w_ixL (SqL.of a3) rfl ?_
          walk_at "s"
          refine w_ixL (SqL.of a3) rfl ?_
          walk_at "s"
          refine w_setI a3 rfl fun H4 g4 => ?_
          walk_at "s"
          exact k _ H4 ⟨Int.emod_nonneg _ (by omega), .inl (Int.emod_lt_of_pos _ (by omega))⟩ ⟨ns, _, _, _, _, g4.at_, g4.keep.at1 ne e3, hi3, Int.ediv_nonneg hb3 (by omega), hz0, hz1⟩ (u3.trans g4.keep)
theorem u_take {st c : Addr} {m : Int} {H : Hp} {Q : VK} {E : XK} (S : StoreAt H st c) (hm : m ≤ 4611686018427387904) (q : ∀ k H', 0 ≤ k ∧ (k < m ∨ k = 0) → StoreAt H' st c → Upt [st] H H' → Q (.int k) H') : sp_take [.ref st, .int m] H Q E :=
  ⟨st, c, m, rfl, S, hm, q⟩
end
end K05
set_option Elab.async false
set_option linter.all false
set_option maxRecDepth 100000
set_option maxHeartbeats 4000000
namespace K05
open PySem PySem.Spec PyProof.Rows L2 Wk
local macro_rules | `(tactic| walk_at "u1") => `(tactic| fail "no more")
local macro_rules | `(tactic| walk_at "pos") => `(tactic| first | assumption | omega | decide | (simp only [Int.ofNat_eq_natCast] at *; omega))
local macro_rules | `(tactic| walk_at "sz") => `(tactic| first
  | (simp only [List.length_cons, List.length_nil]; decide)
  | exact Evl.sz_of (by omega)
  | exact Evl.sz_lt (by omega)
  | exact Evl.sz_of (by simp only [List.length_map, List.length_append, List.length_cons, List.length_nil, List.length_replicate]; omega)
  | exact Evl.sz_lt (by simp only [List.length_map, List.length_append, List.length_cons, List.length_nil, List.length_replicate]; omega))
local macro_rules | `(tactic| walk_at "cond") => `(tactic| first
  | exact Or.inr ⟨by decide, by decide⟩
  | (show (0 : Int) < _; first | decide | assumption | omega)
  | exact Or.inl ⟨by omega, by omega⟩
  | exact Or.inr ⟨by omega, by omega⟩
  | exact ⟨by decide, by decide, by decide⟩
  | exact log2_lt (by omega) (by omega)
  | exact ⟨by omega, by omega⟩)
local macro_rules | `(tactic| walk_at "ty") => `(tactic| first
  | exact ty_int | exact ty_bl | exact ty_str | exact ty_non
  | exact ty_L (by assumption) | exact ty_T (by assumption)
  | exact ty_L (SqL.of (by assumption)) | exact ty_T (SqT.of (by assumption)))
local macro_rules | `(tactic| walk_at "kit") => `(tactic| first
  | exact k_ii | exact k_ib | exact k_is | exact k_il | exact k_it
  | exact k_bb | exact k_bi | exact k_bs | exact k_bl | exact k_bt
  | exact k_ss | exact k_sb | exact k_si | exact k_sl | exact k_st
  | exact k_ll | exact k_lb | exact k_li | exact k_ls | exact k_lt
  | exact k_tt | exact k_tb | exact k_ti | exact k_ts | exact k_tl
  | exact k_nn | exact k_ni | exact k_ns | exact k_nl | exact k_nt)
local macro_rules | `(tactic| walk_at "s1") => `(tactic| first
  | with_reducible refine w_seq ?_
  | with_reducible refine w_set ?_
  | with_reducible refine w_op ?_
  | ((with_reducible refine' w_var ?h1 ?_); (case h1 => rfl))
  | with_reducible refine w_c ?_
  | with_reducible refine w_cb ?_
  | with_reducible refine w_cons ?_
  | with_reducible refine w_nil ?_
  | with_reducible refine w_I0 ?_
  | ((with_reducible refine' w_I ?c1 ?_); case c1 => walk_at "cond")
  | with_reducible refine w_ret ?_
  | with_reducible refine w_next ?_
  | with_reducible refine w_ifS ?_
  | with_reducible refine w_test ?_
  | with_reducible refine w_tB ?_
  | with_reducible refine w_k ?_
  | with_reducible refine w_eqI ?_
  | with_reducible refine w_neI ?_
  | with_reducible refine w_eqS ?_
  | with_reducible refine w_neS ?_
  | with_reducible refine w_and ?_
  | with_reducible refine w_or ?_
  | with_reducible refine w_not ?_
  | with_reducible refine w_andV ?_
  | with_reducible refine w_orV ?_
  | with_reducible refine w_notV ?_
  | with_reducible refine w_ifE ?_
  | with_reducible refine w_true ?_
  | with_reducible refine w_false ?_
  | with_reducible refine w_ntrue ?_
  | with_reducible refine w_nfalse ?_
  | with_reducible refine w_call ?_
  | with_reducible refine c_int ?_
  | with_reducible refine c_abs ?_
  | with_reducible refine c_max ?_
  | with_reducible refine c_min ?_
  | with_reducible refine w_drop ?_
  | with_reducible refine w_sfld ?_
  | with_reducible refine w_meth ?_
  | with_reducible refine w_make ?_
  | with_reducible refine w_prop ?_
  | with_reducible refine w_callK ?_
  | with_reducible refine w_callN ?_
  | with_reducible refine w_star ?_
  | with_reducible refine w_gcons ?_
  | with_reducible refine w_gname ?_
  | with_reducible refine w_gnil ?_
  | with_reducible refine w_retN ?_
  | with_reducible refine w_tup ?_
  | with_reducible refine w_lst ?_
  | with_reducible refine w_fld ?_
  | with_reducible refine w_bm ?_
  | with_reducible refine w_bm0 ?_
  | with_reducible refine w_forL ?_
  | with_reducible refine w_forT ?_
  | with_reducible refine w_forS ?_
  | with_reducible refine w_forR ?_
  | with_reducible refine w_lcR ?_
  | with_reducible refine w_lcL ?_
  | with_reducible refine w_lcT ?_
  | with_reducible refine w_isN ?_
  | with_reducible refine w_notN ?_
  | with_reducible refine w_asg ?_
  | with_reducible refine w_gsub ?_
  | ((with_reducible refine' w_aug ?h1 ?_); (case h1 => rfl))
  | with_reducible refine w_augS ?_
  | with_reducible refine w_ipI ?_
  | with_reducible refine w_un ?_
  | with_reducible refine w_U ?_
  | ((with_reducible refine' w_iteF ?f1 ?_); case f1 => (first | (intro h; cases h; done) | decide))
  | ((with_reducible refine' w_iteT ?f1 ?_); case f1 => rfl)
  | ((with_reducible refine' w_iteNF ?f1 ?_); case f1 => rfl)
  | ((with_reducible refine' w_iteNT ?f1 ?_); case f1 => (first | (intro h; cases h; done) | decide))
  | ((with_reducible refine' c_isi ?t1 ?k1 ?_); (case t1 => walk_at "ty"); (case k1 => walk_at "kit"))
  | ((with_reducible refine' w_eq ?e1 ?_); case e1 => rfl)
  | ((with_reducible refine' w_ne ?e1 ?_); case e1 => rfl)
  | walk_at "u1")
local macro_rules | `(tactic| walk_at "s") => `(tactic| repeat walk_at "s1")
local macro_rules | `(tactic| walk_at "mem") => `(tactic| first | with_reducible exact List.mem_cons_self .. | ((with_reducible refine' List.mem_cons_of_mem _ ?q); (case q => walk_at "mem")) | assumption | ((with_reducible refine' List.mem_append_right _ ?q); (case q => walk_at "mem")) | (exact List.mem_append_left _ (by assumption)))
local macro_rules | `(tactic| walk_at "pk") => `(tactic| first | with_reducible exact Pk.here | ((with_reducible refine' Pk.there ?q); (case q => walk_at "pk")) | ((with_reducible refine' Pk.app ?q); (case q => walk_at "pk")))
local macro_rules | `(tactic| walk_at "pkb") => `(tactic| first | with_reducible exact PkB.here | ((with_reducible refine' PkB.there ?q); (case q => walk_at "pkb")) | ((with_reducible refine' PkB.app ?q); (case q => walk_at "pkb")))
local macro_rules | `(tactic| walk_at "spl") => `(tactic| first | with_reducible exact Spl.nil | ((with_reducible refine' Spl.cons ?h ?t); (case h => walk_at "pk"); (case t => walk_at "spl")) | ((with_reducible refine' Spl.blk ?h ?t); (case h => walk_at "pkb"); (case t => walk_at "spl")))
local macro_rules | `(tactic| walk_at "sbx") => `(tactic| first | with_reducible exact Sb.refl | with_reducible exact Sb.nil | with_reducible exact Sb.left | ((with_reducible refine' Sb.cons ?h ?t); (case h => walk_at "pk"); (case t => walk_at "sbx")) | ((with_reducible refine' Sb.blk ?h ?t); (case h => walk_at "pkb"); (case t => walk_at "sbx")) | ((with_reducible refine' Sb.drop ?q); (case q => walk_at "sbx")) | ((with_reducible refine' Sb.right ?q); (case q => walk_at "sbx")))
local macro_rules | `(tactic| walk_at "hd") => `(tactic| first | assumption | exact Hd.sb (by assumption) (by walk_at "sbx"))
local macro_rules | `(tactic| walk_at "sq") => `(tactic| first
  | assumption
  | exact Hd.sqL (by assumption) (by walk_at "mem")
  | exact Hd.sqT (by assumption) (by walk_at "mem")
  | exact Hd.sqF (by assumption) (by walk_at "mem")
  | (refine .inl ?_; walk_at "sq")
  | (refine .inr ?_; walk_at "sq"))
local macro_rules | `(tactic| walk_at "at") => `(tactic| first | rfl | assumption | exact atI_nat (by assumption))
local macro_rules | `(tactic| walk_at "dn1") => `(tactic| first
  | exact Dn.int | exact Dn.str | exact Dn.non | exact Dn.bl | assumption
  | ((refine' Dn.tp ?a1 ?m1 ?l1 ?p1); (case a1 => assumption); (case m1 => walk_at "mem"); (case l1 => (simp only [List.length_cons, List.length_nil]; omega)); (case p1 => walk_at "dns"))
  | ((refine' Dn.lt ?a1 ?m1 ?l1 ?p1); (case a1 => assumption); (case m1 => walk_at "mem"); (case l1 => (simp only [List.length_cons, List.length_nil]; omega)); (case p1 => walk_at "dns")))
local macro_rules | `(tactic| walk_at "dns") => `(tactic| first | exact Paired.nil | exact Dn.ints | ((refine' Paired.cons ?a1 ?b1); (case a1 => walk_at "dn1"); (case b1 => walk_at "dns")))
local macro_rules | `(tactic| walk_at "g1") => `(tactic| first
  | ((with_reducible refine' g_ixI ?h1 ?h2 ?h3 ?_); (case h1 => assumption); (case h2 => walk_at "mem"); (case h3 => omega); intro z hz)
  | ((with_reducible refine' g_ixIT ?h1 ?h2 ?h3 ?_); (case h1 => assumption); (case h2 => walk_at "mem"); (case h3 => omega); intro z hz)
  | ((with_reducible refine' g_setI ?h1 ?h2 ?h3 ?_); (case h1 => assumption); (case h2 => walk_at "pk"); (case h3 => omega); intro H2 hh2)
  | ((with_reducible refine' w_ixL ?h1 ?h2 ?_); (case h1 => walk_at "sq"); (case h2 => walk_at "at"))
  | ((with_reducible refine' w_ixT ?h1 ?h2 ?_); (case h1 => walk_at "sq"); (case h2 => walk_at "at"))
  | ((with_reducible refine' w_ixAny ?h1 ?h2 ?_); (case h1 => walk_at "sq"); (case h2 => walk_at "at"))
  | ((with_reducible refine' c_lenA ?h1 ?_); (case h1 => walk_at "sq"))
  | ((with_reducible refine' c_isi ?t1 ?k1 ?_); (case t1 => first | exact ty_T (by walk_at "sq") | exact ty_L (by walk_at "sq")); (case k1 => walk_at "kit"))
  | ((with_reducible refine' g_lst ?h1 ?h2 ?_); (case h1 => assumption); (case h2 => walk_at "sz"); intro p H2 hh2)
  | ((with_reducible refine' g_tup ?h1 ?h2 ?_); (case h1 => assumption); (case h2 => walk_at "sz"); intro p H2 hh2)
  | ((with_reducible refine' g_dict ?h1 ?_); (case h1 => assumption); intro p H2 hh2)
  | ((with_reducible refine' g_listL ?h1 ?h2 ?_); (case h1 => assumption); (case h2 => walk_at "sq"); intro p H2 hh2)
  | ((with_reducible refine' g_listT ?h1 ?h2 ?_); (case h1 => assumption); (case h2 => walk_at "sq"); intro p H2 hh2)
  | ((with_reducible refine' g_tupL ?h1 ?h2 ?_); (case h1 => assumption); (case h2 => walk_at "sq"); intro p H2 hh2)
  | ((with_reducible refine' g_set ?h1 ?h2 ?h3 ?_); (case h1 => assumption); (case h2 => walk_at "pk"); (case h3 => first | rfl | assumption | exact Evl.ixN_nat (by first | omega | (simp only [List.length_cons, List.length_nil]; omega))); intro H2 hh2)
  | ((with_reducible refine' g_kbm ?h1 ?h2 ?_); (case h1 => assumption); (case h2 => walk_at "mem"))
  | ((with_reducible refine' g_kbm0 ?h1 ?h2 ?_); (case h1 => assumption); (case h2 => walk_at "mem"))
  | ((with_reducible refine' g_app ?h1 ?h2 ?h3 ?_); (case h1 => assumption); (case h2 => walk_at "pk"); (case h3 => walk_at "sz"); intro H2 hh2)
  | ((with_reducible refine' g_kapp ?h1 ?h2 ?h3 ?_); (case h1 => assumption); (case h2 => walk_at "pk"); (case h3 => walk_at "sz"); intro H2 hh2)
  | ((with_reducible refine' g_fld ?h1 ?h2 ?h3 ?h4 ?h5 ?_); (case h1 => assumption); (case h2 => walk_at "mem"); (case h3 => assumption); (case h4 => assumption); (case h5 => rfl))
  | ((with_reducible refine' g_sfld ?h1 ?h2 ?h3 ?h4 ?h5 ?_); (case h1 => assumption); (case h2 => walk_at "pk"); (case h3 => assumption); (case h4 => assumption); (case h5 => decide); intro H2 hh2)
  | ((with_reducible refine' g_meth ?h1 ?h2 ?h3 ?_); (case h1 => assumption); (case h2 => walk_at "mem"); (case h3 => rfl))
  | ((with_reducible refine' g_prop ?h1 ?h2 ?_); (case h1 => assumption); (case h2 => walk_at "mem"))
  | ((with_reducible refine' g_make ?h1 ?_); (case h1 => assumption); intro x H2 hh2)
  | ((with_reducible refine' g_cat ?h1 ?h2 ?h3 ?h4 ?_); (case h1 => assumption); (case h2 => walk_at "mem"); (case h3 => walk_at "mem"); (case h4 => walk_at "sz"); intro p H2 hh2)
  | ((with_reducible refine' g_inT ?h1 ?h2 ?h3 ?h4 ?h5 ?_); (case h1 => assumption); (case h2 => walk_at "mem"); (case h3 => rfl); (case h4 => rfl); (case h5 => rfl)))
local macro_rules | `(tactic| walk_at "gs") => `(tactic| repeat first | walk_at "s1" | walk_at "g1")
local macro_rules | `(tactic| walk_at "ite") => `(tactic| first
  | ((with_reducible refine' w_iteT ?h1 ?_); (case h1 => omega))
  | ((with_reducible refine' w_iteF ?h1 ?_); (case h1 => omega))
  | (with_reducible refine w_ite ?_ ?_ <;> intro hq)
  | ((with_reducible refine' w_iteNT ?h1 ?_); (case h1 => omega))
  | ((with_reducible refine' w_iteNF ?h1 ?_); (case h1 => omega))
  | (with_reducible refine w_iteN ?_ ?_ <;> intro hq))
local macro_rules | `(tactic| walk_at "go") => `(tactic| repeat' first | walk_at "s1" | walk_at "g1" | walk_at "ite")
section
variable {P : Program} {w : World} {K : PySem.W.Frag} {mg : Str → Option Value} {base : Heap} {aREG aOPS : Addr}
def sp_pick (K : PySem.W.Frag) : Sp := fun vs H Q _ => ∃ (st c r : Addr) (xs : List V), vs = [.ref st, .ref r] ∧ StoreAt H st c ∧ SqL K H r xs ∧ r ≠ st ∧ 0 < xs.length ∧ xs.length ≤ 100000 ∧
  ∀ v H', v ∈ xs → StoreAt H' st c → Upt [st] H H' → Q v H'
theorem c_pick (T : Txt K mg aREG aOPS) (d : DefAt K mg "_law_pick" s__law_pick) (c__law_take : C8.Cal P w K mg base 2 "_law_take" sp_take []) : C8.Cal P w K mg base 3 "_law_pick" (sp_pick K) [] := by
  refine mk d sc__law_pick (fun _ _ _ _ _ _ us hl => match us, hl with | [_, _], _ => rfl) (fun vs H Q E h => ?_) (fun f cdv A outer s H vs Q E hr h => ?_)
  · obtain ⟨st, c, r, xs, rfl, _⟩ := h
    rfl
  · obtain ⟨st, c, r, xs, rfl, S, hr1, hne, h0, h1, k⟩ := h
    refine ⟨_, (pss_one (ps_ret (pe_ix ix_list (pv 1) (C8.pe_c c__law_take hr (by first | decide | omega) rfl (pa_cons (pv 0) (pa_cons (pe_callB Wk.b_len (by rfl) T.b_len (by decide +kernel) (pa_cons (pv 1) pa_nil)) pa_nil))) (fun _ _ => rfl)))), ?_⟩
    walk_at "s"
    refine c_lenL hr1 ?_
    walk_at "s"
    refine u_take S (by omega) fun n H2 hn S2 U2 => ?_
    walk_at "s"
    obtain ⟨j, rfl⟩ := Int.eq_ofNat_of_zero_le hn.1
    have hj : j < xs.length := by omega
    refine w_ixL (Upt.seqL U2 (by simpa using hne) hr1) (atI_nat (List.getElem?_eq_getElem hj)) ?_
    exact k _ H2 (List.getElem_mem hj) S2 U2
theorem u_pick {st c r : Addr} {xs : List V} {H : Hp} {Q : VK} {E : XK} (S : StoreAt H st c) (hr : SqL K H r xs) (hne : r ≠ st) (h0 : 0 < xs.length) (h1 : xs.length ≤ 100000) (q : ∀ v H', v ∈ xs → StoreAt H' st c → Upt [st] H H' → Q v H') : sp_pick K [.ref st, .ref r] H Q E :=
  ⟨st, c, r, xs, rfl, S, hr, hne, h0, h1, q⟩
def sp_between : Sp := fun vs H Q _ => ∃ (st c : Addr) (lo hi : Int), vs = [.ref st, .int lo, .int hi] ∧ StoreAt H st c ∧ lo ≤ hi ∧ hi - lo < 4611686018427387904 ∧ Drawn st c H (fun k => lo ≤ k ∧ k ≤ hi) Q
theorem c_between (T : Txt K mg aREG aOPS) (d : DefAt K mg "_law_between" s__law_between) (c__law_take : C8.Cal P w K mg base 2 "_law_take" sp_take []) : C8.Cal P w K mg base 3 "_law_between" sp_between [] := by
  refine mk d sc__law_between (fun _ _ _ _ _ _ us hl => match us, hl with | [_, _, _], _ => rfl) (fun vs H Q E h => ?_) (fun f cdv A outer s H vs Q E hr h => ?_)
  · obtain ⟨st, c, lo, hi, rfl, _⟩ := h
    rfl
  · obtain ⟨st, c, lo, hi, rfl, S, h0, h1, k⟩ := h
    refine ⟨_, (pss_cons (ps_set (i := 3) sc__law_between.nd rfl (Or.inl rfl) (pe_op op_add (pe_op op_sub (pv 2) (pv 1)) pe_int))
  (pss_cons (ps_set (i := 4) sc__law_between.nd rfl (Or.inl rfl) (C8.pe_c c__law_take hr (by first | decide | omega) rfl (pa_cons (pv 0) (pa_cons pe_int pa_nil))))
  (pss_cons (ps_if (pt_cmpR op_eq (pv 4) pe_int (nomark _))
    (pss_one (ps_ret (pe_op op_add (pv 1) (C8.pe_c c__law_take hr (by first | decide | omega) rfl (pa_cons (pv 0) (pa_cons (pe_callB (Wk.b_min rfl) (by rfl) T.b_min (by decide +kernel) (pa_cons (pv 3) (pa_cons pe_int pa_nil))) pa_nil))))))
    pss_nil)
  (pss_cons (ps_if (pt_cmpR op_eq (pv 4) pe_int (nomark _))
    (pss_one (ps_ret (pe_op op_sub (pv 2) (C8.pe_c c__law_take hr (by first | decide | omega) rfl (pa_cons (pv 0) (pa_cons (pe_callB (Wk.b_min rfl) (by rfl) T.b_min (by decide +kernel) (pa_cons (pv 3) (pa_cons pe_int pa_nil))) pa_nil))))))
    pss_nil)
  (pss_one (ps_ret (pe_op op_add (pv 1) (C8.pe_c c__law_take hr (by first | decide | omega) rfl (pa_cons (pv 0) (pa_cons (pv 3) pa_nil)))))))))), ?_⟩
    walk_at "s"
    refine u_take S (by omega) fun n H2 hn S2 U2 => ?_
    walk_at "s"
    refine w_ite (fun q1 => ?_) (fun q1 => ?_)
    · walk_at "s"
      refine u_take S2 (by split <;> omega) fun n2 H3 hn2 S3 U3 => ?_
      walk_at "s"
      exact k _ H3 (by have := hn2.2; split at this <;> omega) S3 (U2.trans U3)
    · walk_at "s"
      refine w_ite (fun q2 => ?_) (fun q2 => ?_)
      · walk_at "s"
        refine u_take S2 (by split <;> omega) fun n2 H3 hn2 S3 U3 => ?_
        walk_at "s"
        exact k _ H3 (by have := hn2.2; split at this <;> omega) S3 (U2.trans U3)
      · walk_at "s"
        refine u_take S2 (by omega) fun n2 H3 hn2 S3 U3 => ?_
        walk_at "s"
        exact k _ H3 (by omega) S3 (U2.trans U3)
theorem u_between {st c : Addr} {lo hi : Int} {H : Hp} {Q : VK} {E : XK} (S : StoreAt H st c) (h0 : lo ≤ hi) (h1 : hi - lo < 4611686018427387904) (q : ∀ k H', lo ≤ k ∧ k ≤ hi → StoreAt H' st c → Upt [st] H H' → Q (.int k) H') : sp_between [.ref st, .int lo, .int hi] H Q E :=
  ⟨st, c, lo, hi, rfl, S, h0, h1, q⟩
def sp_size : Sp := fun vs H Q _ => ∃ (st c : Addr) (m : Int), vs = [.ref st, .int m] ∧ StoreAt H st c ∧ 0 ≤ m ∧ m ≤ 1000000 ∧ Drawn st c H (fun k => 0 ≤ k ∧ k ≤ m) Q
theorem c_size (T : Txt K mg aREG aOPS) (d : DefAt K mg "_law_size" s__law_size) (c__law_take : C8.Cal P w K mg base 2 "_law_take" sp_take []) : C8.Cal P w K mg base 3 "_law_size" sp_size [] := by
  refine mk d sc__law_size (fun _ _ _ _ _ _ us hl => match us, hl with | [_, _], _ => rfl) (fun vs H Q E h => ?_) (fun f cdv A outer s H vs Q E hr h => ?_)
  · obtain ⟨st, c, m, rfl, _⟩ := h
    rfl
  · obtain ⟨st, c, m, rfl, S, h0, h1, k⟩ := h
    refine ⟨_, (pss_cons (ps_set (i := 2) sc__law_size.nd rfl (Or.inl rfl) (C8.pe_c c__law_take hr (by first | decide | omega) rfl (pa_cons (pv 0) (pa_cons pe_int pa_nil))))
  (pss_cons (ps_if (pt_cmpR op_eq (pv 2) pe_int (nomark _))
    (pss_one (ps_ret pe_int))
    pss_nil)
  (pss_cons (ps_if (pt_cmpR op_eq (pv 2) pe_int (nomark _))
    (pss_one (ps_ret (pv 1)))
    pss_nil)
  (pss_cons (ps_if (pt_cmpR op_eq (pv 2) pe_int (nomark _))
    (pss_one (ps_ret (pe_callB (Wk.b_max rfl) (by rfl) T.b_max (by decide +kernel) (pa_cons pe_int (pa_cons (pe_op op_sub (pv 1) pe_int) pa_nil)))))
    pss_nil)
  (pss_cons (ps_if (pt_cmpR op_eq (pv 2) pe_int (nomark _))
    (pss_one (ps_ret (C8.pe_c c__law_take hr (by first | decide | omega) rfl (pa_cons (pv 0) (pa_cons (pe_op op_add (pv 1) pe_int) pa_nil)))))
    pss_nil)
  (pss_one (ps_ret (C8.pe_c c__law_take hr (by first | decide | omega) rfl (pa_cons (pv 0) (pa_cons (pe_op op_add (pe_callB (Wk.b_min rfl) (by rfl) T.b_min (by decide +kernel) (pa_cons (pv 1) (pa_cons pe_int pa_nil))) pe_int) pa_nil)))))))))), ?_⟩
    walk_at "s"
    refine u_take S (by omega) fun n H2 hn S2 U2 => ?_
    walk_at "s"
    refine w_ite (fun q1 => ?_) (fun q1 => ?_)
    · walk_at "s"
      exact k _ H2 (by omega) S2 U2
    · walk_at "s"
      refine w_ite (fun q2 => ?_) (fun q2 => ?_)
      · walk_at "s"
        exact k _ H2 (by omega) S2 U2
      · walk_at "s"
        refine w_ite (fun q3 => ?_) (fun q3 => ?_)
        · walk_at "s"
          exact k _ H2 (by split <;> omega) S2 U2
        · walk_at "s"
          refine w_ite (fun q4 => ?_) (fun q4 => ?_)
          · walk_at "s"
            refine u_take S2 (by omega) fun n2 H3 hn2 S3 U3 => ?_
            exact k _ H3 (by omega) S3 (U2.trans U3)
          · walk_at "s"
            refine u_take S2 (by split <;> omega) fun n2 H3 hn2 S3 U3 => ?_
            exact k _ H3 (by have := hn2.2; split at this <;> omega) S3 (U2.trans U3)
theorem u_size {st c : Addr} {m : Int} {H : Hp} {Q : VK} {E : XK} (S : StoreAt H st c) (h0 : 0 ≤ m) (h1 : m ≤ 1000000) (q : ∀ k H', 0 ≤ k ∧ k ≤ m → StoreAt H' st c → Upt [st] H H' → Q (.int k) H') : sp_size [.ref st, .int m] H Q E :=
  ⟨st, c, m, rfl, S, h0, h1, q⟩
def sp_word : Sp := fun vs H Q _ => ∃ (st c : Addr), vs = [.ref st] ∧ StoreAt H st c ∧ Drawn st c H (fun k => 0 ≤ k ∧ k < 65536) Q
theorem c_word (T : Txt K mg aREG aOPS) (d : DefAt K mg "_law_word" s__law_word) (c__law_take : C8.Cal P w K mg base 2 "_law_take" sp_take []) (c__law_pick : C8.Cal P w K mg base 3 "_law_pick" (sp_pick K) []) : C8.Cal P w K mg base 4 "_law_word" sp_word [] := by
  refine mk d sc__law_word (fun _ _ _ _ _ _ us hl => match us, hl with | [_], _ => rfl) (fun vs H Q E h => ?_) (fun f cdv A outer s H vs Q E hr h => ?_)
  · obtain ⟨st, c, rfl, _⟩ := h
    rfl
  · obtain ⟨st, c, rfl, S, k⟩ := h
    refine ⟨_, (pss_cons (ps_set (i := 1) sc__law_word.nd rfl (Or.inl rfl) (C8.pe_c c__law_take hr (by first | decide | omega) rfl (pa_cons (pv 0) (pa_cons pe_int pa_nil))))
  (pss_cons (ps_if (pt_cmpR op_eq (pv 1) pe_int (nomark _))
    (pss_one (ps_ret (C8.pe_c c__law_pick hr (by first | decide | omega) rfl (pa_cons (pv 0) (pa_cons (pe_lst (pa_cons pe_int (pa_cons pe_int (pa_cons pe_int (pa_cons pe_int (pa_cons pe_int (pa_cons pe_int (pa_cons pe_int (pa_cons pe_int (pa_cons pe_int (pa_cons pe_int (pa_cons pe_int (pa_cons pe_int (pa_cons pe_int (pa_cons pe_int pa_nil))))))))))))))) pa_nil)))))
    pss_nil)
  (pss_cons (ps_if (pt_cmpR op_eq (pv 1) pe_int (nomark _))
    (pss_one (ps_ret (C8.pe_c c__law_take hr (by first | decide | omega) rfl (pa_cons (pv 0) (pa_cons pe_int pa_nil)))))
    pss_nil)
  (pss_one (ps_ret (C8.pe_c c__law_take hr (by first | decide | omega) rfl (pa_cons (pv 0) (pa_cons pe_int pa_nil)))))))), ?_⟩
    walk_at "s"
    refine u_take S (by omega) fun n H2 hn S2 U2 => ?_
    walk_at "s"
    refine w_ite (fun q1 => ?_) (fun q1 => ?_)
    · walk_at "s"
      refine w_new (by walk_at "sz") fun p H3 n3 => ?_
      walk_at "s"
      refine u_pick (S2.new n3) (SqL.of n3.at_) (S2.off n3).1 (by simp) (by simp) fun v H4 hv S4 U4 => ?_
      have hv2 : ∃ k : Int, v = .int k ∧ 0 ≤ k ∧ k < 65536 := by
        simp only [List.mem_cons, List.not_mem_nil, or_false] at hv
        rcases hv with h | h | h | h | h | h | h | h | h | h | h | h | h | h <;> exact ⟨_, h, by omega, by omega⟩
      obtain ⟨z, rfl, hz⟩ := hv2
      exact k z H4 hz S4 ((U2.trans (n3.keep.mono (by simp))).trans U4)
    · walk_at "s"
      refine w_ite (fun q2 => ?_) (fun q2 => ?_)
      · walk_at "s"
        refine u_take S2 (by omega) fun n2 H3 hn2 S3 U3 => ?_
        exact k _ H3 (by omega) S3 (U2.trans U3)
      · walk_at "s"
        refine u_take S2 (by omega) fun n2 H3 hn2 S3 U3 => ?_
        exact k _ H3 (by omega) S3 (U2.trans U3)
theorem u_word {st c : Addr} {H : Hp} {Q : VK} {E : XK} (S : StoreAt H st c) (q : ∀ k H', 0 ≤ k ∧ k < 65536 → StoreAt H' st c → Upt [st] H H' → Q (.int k) H') : sp_word [.ref st] H Q E :=
  ⟨st, c, rfl, S, q⟩
end
end K05
set_option Elab.async false
set_option linter.all false
set_option maxRecDepth 100000
set_option maxHeartbeats 4000000
namespace K05
open PySem PySem.Spec PyProof.Rows L2 Wk
local macro_rules | `(tactic| walk_at "u1") => `(tactic| fail "no more")
local macro_rules | `(tactic| walk_at "pos") => `(tactic| first | assumption | omega | decide | (simp only [Int.ofNat_eq_natCast] at *; omega))
local macro_rules | `(tactic| walk_at "sz") => `(tactic| first
  | (simp only [List.length_cons, List.length_nil]; decide)
  | exact Evl.sz_of (by omega)
  | exact Evl.sz_lt (by omega)
  | exact Evl.sz_of (by simp only [List.length_map, List.length_append, List.length_cons, List.length_nil, List.length_replicate]; omega)
  | exact Evl.sz_lt (by simp only [List.length_map, List.length_append, List.length_cons, List.length_nil, List.length_replicate]; omega))
local macro_rules | `(tactic| walk_at "cond") => `(tactic| first
  | exact Or.inr ⟨by decide, by decide⟩
  | (show (0 : Int) < _; first | decide | assumption | omega)
  | exact Or.inl ⟨by omega, by omega⟩
  | exact Or.inr ⟨by omega, by omega⟩
  | exact ⟨by decide, by decide, by decide⟩
  | exact log2_lt (by omega) (by omega)
  | exact ⟨by omega, by omega⟩)
local macro_rules | `(tactic| walk_at "ty") => `(tactic| first
  | exact ty_int | exact ty_bl | exact ty_str | exact ty_non
  | exact ty_L (by assumption) | exact ty_T (by assumption)
  | exact ty_L (SqL.of (by assumption)) | exact ty_T (SqT.of (by assumption)))
local macro_rules | `(tactic| walk_at "kit") => `(tactic| first
  | exact k_ii | exact k_ib | exact k_is | exact k_il | exact k_it
  | exact k_bb | exact k_bi | exact k_bs | exact k_bl | exact k_bt
  | exact k_ss | exact k_sb | exact k_si | exact k_sl | exact k_st
  | exact k_ll | exact k_lb | exact k_li | exact k_ls | exact k_lt
  | exact k_tt | exact k_tb | exact k_ti | exact k_ts | exact k_tl
  | exact k_nn | exact k_ni | exact k_ns | exact k_nl | exact k_nt)
local macro_rules | `(tactic| walk_at "s1") => `(tactic| first
  | with_reducible refine w_seq ?_
  | with_reducible refine w_set ?_
  | with_reducible refine w_op ?_
  | ((with_reducible refine' w_var ?h1 ?_); (case h1 => rfl))
  | with_reducible refine w_c ?_
  | with_reducible refine w_cb ?_
  | with_reducible refine w_cons ?_
  | with_reducible refine w_nil ?_
  | with_reducible refine w_I0 ?_
  | ((with_reducible refine' w_I ?c1 ?_); case c1 => walk_at "cond")
  | with_reducible refine w_ret ?_
  | with_reducible refine w_next ?_
  | with_reducible refine w_ifS ?_
  | with_reducible refine w_test ?_
  | with_reducible refine w_tB ?_
  | with_reducible refine w_k ?_
  | with_reducible refine w_eqI ?_
  | with_reducible refine w_neI ?_
  | with_reducible refine w_eqS ?_
  | with_reducible refine w_neS ?_
  | with_reducible refine w_and ?_
  | with_reducible refine w_or ?_
  | with_reducible refine w_not ?_
  | with_reducible refine w_andV ?_
  | with_reducible refine w_orV ?_
  | with_reducible refine w_notV ?_
  | with_reducible refine w_ifE ?_
  | with_reducible refine w_true ?_
  | with_reducible refine w_false ?_
  | with_reducible refine w_ntrue ?_
  | with_reducible refine w_nfalse ?_
  | with_reducible refine w_call ?_
  | with_reducible refine c_int ?_
  | with_reducible refine c_abs ?_
  | with_reducible refine c_max ?_
  | with_reducible refine c_min ?_
  | with_reducible refine w_drop ?_
  | with_reducible refine w_sfld ?_
  | with_reducible refine w_meth ?_
  | with_reducible refine w_make ?_
  | with_reducible refine w_prop ?_
  | with_reducible refine w_callK ?_
  | with_reducible refine w_callN ?_
  | with_reducible refine w_star ?_
  | with_reducible refine w_gcons ?_
  | with_reducible refine w_gname ?_
  | with_reducible refine w_gnil ?_
  | with_reducible refine w_retN ?_
  | with_reducible refine w_tup ?_
  | with_reducible refine w_lst ?_
  | with_reducible refine w_fld ?_
  | with_reducible refine w_bm ?_
  | with_reducible refine w_bm0 ?_
  | with_reducible refine w_forL ?_
  | with_reducible refine w_forT ?_
  | with_reducible refine w_forS ?_
  | with_reducible refine w_forR ?_
  | with_reducible refine w_lcR ?_
  | with_reducible refine w_lcL ?_
  | with_reducible refine w_lcT ?_
  | with_reducible refine w_isN ?_
  | with_reducible refine w_notN ?_
  | with_reducible refine w_asg ?_
  | with_reducible refine w_gsub ?_
  | ((with_reducible refine' w_aug ?h1 ?_); (case h1 => rfl))
  | with_reducible refine w_augS ?_
  | with_reducible refine w_ipI ?_
  | with_reducible refine w_un ?_
  | with_reducible refine w_U ?_
  | ((with_reducible refine' w_iteF ?f1 ?_); case f1 => (first | (intro h; cases h; done) | decide))
  | ((with_reducible refine' w_iteT ?f1 ?_); case f1 => rfl)
  | ((with_reducible refine' w_iteNF ?f1 ?_); case f1 => rfl)
  | ((with_reducible refine' w_iteNT ?f1 ?_); case f1 => (first | (intro h; cases h; done) | decide))
  | ((with_reducible refine' c_isi ?t1 ?k1 ?_); (case t1 => walk_at "ty"); (case k1 => walk_at "kit"))
  | ((with_reducible refine' w_eq ?e1 ?_); case e1 => rfl)
  | ((with_reducible refine' w_ne ?e1 ?_); case e1 => rfl)
  | walk_at "u1")
local macro_rules | `(tactic| walk_at "s") => `(tactic| repeat walk_at "s1")
local macro_rules | `(tactic| walk_at "mem") => `(tactic| first | with_reducible exact List.mem_cons_self .. | ((with_reducible refine' List.mem_cons_of_mem _ ?q); (case q => walk_at "mem")) | assumption | ((with_reducible refine' List.mem_append_right _ ?q); (case q => walk_at "mem")) | (exact List.mem_append_left _ (by assumption)))
local macro_rules | `(tactic| walk_at "pk") => `(tactic| first | with_reducible exact Pk.here | ((with_reducible refine' Pk.there ?q); (case q => walk_at "pk")) | ((with_reducible refine' Pk.app ?q); (case q => walk_at "pk")))
local macro_rules | `(tactic| walk_at "pkb") => `(tactic| first | with_reducible exact PkB.here | ((with_reducible refine' PkB.there ?q); (case q => walk_at "pkb")) | ((with_reducible refine' PkB.app ?q); (case q => walk_at "pkb")))
local macro_rules | `(tactic| walk_at "spl") => `(tactic| first | with_reducible exact Spl.nil | ((with_reducible refine' Spl.cons ?h ?t); (case h => walk_at "pk"); (case t => walk_at "spl")) | ((with_reducible refine' Spl.blk ?h ?t); (case h => walk_at "pkb"); (case t => walk_at "spl")))
local macro_rules | `(tactic| walk_at "sbx") => `(tactic| first | with_reducible exact Sb.refl | with_reducible exact Sb.nil | with_reducible exact Sb.left | ((with_reducible refine' Sb.cons ?h ?t); (case h => walk_at "pk"); (case t => walk_at "sbx")) | ((with_reducible refine' Sb.blk ?h ?t); (case h => walk_at "pkb"); (case t => walk_at "sbx")) | ((with_reducible refine' Sb.drop ?q); (case q => walk_at "sbx")) | ((with_reducible refine' Sb.right ?q); (case q => walk_at "sbx")))
local macro_rules | `(tactic| walk_at "hd") => `(tactic| first | assumption | exact Hd.sb (by assumption) (by walk_at "sbx"))
local macro_rules | `(tactic| walk_at "sq") => `(tactic| first
  | assumption
  | exact Hd.sqL (by assumption) (by walk_at "mem")
  | exact Hd.sqT (by assumption) (by walk_at "mem")
  | exact Hd.sqF (by assumption) (by walk_at "mem")
  | (refine .inl ?_; walk_at "sq")
  | (refine .inr ?_; walk_at "sq"))
local macro_rules | `(tactic| walk_at "at") => `(tactic| first | rfl | assumption | exact atI_nat (by assumption))
local macro_rules | `(tactic| walk_at "dn1") => `(tactic| first
  | exact Dn.int | exact Dn.str | exact Dn.non | exact Dn.bl | assumption
  | ((refine' Dn.tp ?a1 ?m1 ?l1 ?p1); (case a1 => assumption); (case m1 => walk_at "mem"); (case l1 => (simp only [List.length_cons, List.length_nil]; omega)); (case p1 => walk_at "dns"))
  | ((refine' Dn.lt ?a1 ?m1 ?l1 ?p1); (case a1 => assumption); (case m1 => walk_at "mem"); (case l1 => (simp only [List.length_cons, List.length_nil]; omega)); (case p1 => walk_at "dns")))
local macro_rules | `(tactic| walk_at "dns") => `(tactic| first | exact Paired.nil | exact Dn.ints | ((refine' Paired.cons ?a1 ?b1); (case a1 => walk_at "dn1"); (case b1 => walk_at "dns")))
local macro_rules | `(tactic| walk_at "g1") => `(tactic| first
  | ((with_reducible refine' g_ixI ?h1 ?h2 ?h3 ?_); (case h1 => assumption); (case h2 => walk_at "mem"); (case h3 => omega); intro z hz)
  | ((with_reducible refine' g_ixIT ?h1 ?h2 ?h3 ?_); (case h1 => assumption); (case h2 => walk_at "mem"); (case h3 => omega); intro z hz)
  | ((with_reducible refine' g_setI ?h1 ?h2 ?h3 ?_); (case h1 => assumption); (case h2 => walk_at "pk"); (case h3 => omega); intro H2 hh2)
  | ((with_reducible refine' w_ixL ?h1 ?h2 ?_); (case h1 => walk_at "sq"); (case h2 => walk_at "at"))
  | ((with_reducible refine' w_ixT ?h1 ?h2 ?_); (case h1 => walk_at "sq"); (case h2 => walk_at "at"))
  | ((with_reducible refine' w_ixAny ?h1 ?h2 ?_); (case h1 => walk_at "sq"); (case h2 => walk_at "at"))
  | ((with_reducible refine' c_lenA ?h1 ?_); (case h1 => walk_at "sq"))
  | ((with_reducible refine' c_isi ?t1 ?k1 ?_); (case t1 => first | exact ty_T (by walk_at "sq") | exact ty_L (by walk_at "sq")); (case k1 => walk_at "kit"))
  | ((with_reducible refine' g_lst ?h1 ?h2 ?_); (case h1 => assumption); (case h2 => walk_at "sz"); intro p H2 hh2)
  | ((with_reducible refine' g_tup ?h1 ?h2 ?_); (case h1 => assumption); (case h2 => walk_at "sz"); intro p H2 hh2)
  | ((with_reducible refine' g_dict ?h1 ?_); (case h1 => assumption); intro p H2 hh2)
  | ((with_reducible refine' g_listL ?h1 ?h2 ?_); (case h1 => assumption); (case h2 => walk_at "sq"); intro p H2 hh2)
  | ((with_reducible refine' g_listT ?h1 ?h2 ?_); (case h1 => assumption); (case h2 => walk_at "sq"); intro p H2 hh2)
  | ((with_reducible refine' g_tupL ?h1 ?h2 ?_); (case h1 => assumption); (case h2 => walk_at "sq"); intro p H2 hh2)
  | ((with_reducible refine' g_set ?h1 ?h2 ?h3 ?_); (case h1 => assumption); (case h2 => walk_at "pk"); (case h3 => first | rfl | assumption | exact Evl.ixN_nat (by first | omega | (simp only [List.length_cons, List.length_nil]; omega))); intro H2 hh2)
  | ((with_reducible refine' g_kbm ?h1 ?h2 ?_); (case h1 => assumption); (case h2 => walk_at "mem"))
  | ((with_reducible refine' g_kbm0 ?h1 ?h2 ?_); (case h1 => assumption); (case h2 => walk_at "mem"))
  | ((with_reducible refine' g_app ?h1 ?h2 ?h3 ?_); (case h1 => assumption); (case h2 => walk_at "pk"); (case h3 => walk_at "sz"); intro H2 hh2)
  | ((with_reducible refine' g_kapp ?h1 ?h2 ?h3 ?_); (case h1 => assumption); (case h2 => walk_at "pk"); (case h3 => walk_at "sz"); intro H2 hh2)
  | ((with_reducible refine' g_fld ?h1 ?h2 ?h3 ?h4 ?h5 ?_); (case h1 => assumption); (case h2 => walk_at "mem"); (case h3 => assumption); (case h4 => assumption); (case h5 => rfl))
  | ((with_reducible refine' g_sfld ?h1 ?h2 ?h3 ?h4 ?h5 ?_); (case h1 => assumption); (case h2 => walk_at "pk"); (case h3 => assumption); (case h4 => assumption); (case h5 => decide); intro H2 hh2)
  | ((with_reducible refine' g_meth ?h1 ?h2 ?h3 ?_); (case h1 => assumption); (case h2 => walk_at "mem"); (case h3 => rfl))
  | ((with_reducible refine' g_prop ?h1 ?h2 ?_); (case h1 => assumption); (case h2 => walk_at "mem"))
  | ((with_reducible refine' g_make ?h1 ?_); (case h1 => assumption); intro x H2 hh2)
  | ((with_reducible refine' g_cat ?h1 ?h2 ?h3 ?h4 ?_); (case h1 => assumption); (case h2 => walk_at "mem"); (case h3 => walk_at "mem"); (case h4 => walk_at "sz"); intro p H2 hh2)
  | ((with_reducible refine' g_inT ?h1 ?h2 ?h3 ?h4 ?h5 ?_); (case h1 => assumption); (case h2 => walk_at "mem"); (case h3 => rfl); (case h4 => rfl); (case h5 => rfl)))
local macro_rules | `(tactic| walk_at "gs") => `(tactic| repeat first | walk_at "s1" | walk_at "g1")
local macro_rules | `(tactic| walk_at "ite") => `(tactic| first
  | ((with_reducible refine' w_iteT ?h1 ?_); (case h1 => omega))
  | ((with_reducible refine' w_iteF ?h1 ?_); (case h1 => omega))
  | (with_reducible refine w_ite ?_ ?_ <;> intro hq)
  | ((with_reducible refine' w_iteNT ?h1 ?_); (case h1 => omega))
  | ((with_reducible refine' w_iteNF ?h1 ?_); (case h1 => omega))
  | (with_reducible refine w_iteN ?_ ?_ <;> intro hq))
local macro_rules | `(tactic| walk_at "go") => `(tactic| repeat' first | walk_at "s1" | walk_at "g1" | walk_at "ite")
section
variable {P : Program} {w : World} {K : PySem.W.Frag} {mg : Str → Option Value} {base : Heap} {aREG aOPS : Addr}
/-! ### likeness -/
/-- two things of one datum, nested less than n deep, are alike -/
def sp_alike (K : PySem.W.Frag) (n : Nat) : Sp := fun vs H Q _ => ∃ (v1 v2 : V) (d : PyData), vs = [v1, v2] ∧ (match n with
  | 0 => False
  | n + 1 => Dn K [] H n v1 d ∧ Dn K [] H n v2 d) ∧ Q (.bl true) H
theorem alike_step (n : Nat) (T : Txt K mg aREG aOPS) (d : DefAt K mg "_law_alike" s__law_alike) (c__law_alike : C8.Cal P w K mg base n "_law_alike" (sp_alike K n) []) : C8.Cal P w K mg base (n + 1) "_law_alike" (sp_alike K (n + 1)) [] := by
  refine mk d sc__law_alike (fun _ _ _ _ _ _ us hl => match us, hl with | [_, _], _ => rfl) (fun vs H Q E h => ?_) (fun f cdv A outer s H vs Q E hr h => ?_)
  · obtain ⟨v1, v2, d, rfl, _⟩ := h
    rfl
  · obtain ⟨v1, v2, d, rfl, hd, k⟩ := h
    refine ⟨_, (pss_cons (ps_if (PW.pt (pw_or (pt_cmpR op_isN1 (pv 0) pe_non (nomark _)) (pw_or1 (pt_cmpR op_isN1 (pv 1) pe_non (nomark _)))))
    (pss_one (ps_ret (pe_and (pe_cmpR op_isN1 (pv 0) pe_non (nomark _)) (pe_one (pe_cmpR op_isN1 (pv 1) pe_non (nomark _))))))
    pss_nil)
  (pss_cons (ps_if (PW.pt (pw_or (pt_val (pe_callB call_isi (by rfl) T.b_isinstance (by decide +kernel) (pa_cons (pv 0) (pa_cons (pe_bltn (v := .ty "bool") (by rfl) T.b_bool (by decide +kernel) rfl) pa_nil)))) (pw_or1 (pt_val (pe_callB call_isi (by rfl) T.b_isinstance (by decide +kernel) (pa_cons (pv 1) (pa_cons (pe_bltn (v := .ty "bool") (by rfl) T.b_bool (by decide +kernel) rfl) pa_nil)))))))
    (pss_one (ps_ret (pe_and (pe_callB call_isi (by rfl) T.b_isinstance (by decide +kernel) (pa_cons (pv 0) (pa_cons (pe_bltn (v := .ty "bool") (by rfl) T.b_bool (by decide +kernel) rfl) pa_nil))) (pe_and (pe_callB call_isi (by rfl) T.b_isinstance (by decide +kernel) (pa_cons (pv 1) (pa_cons (pe_bltn (v := .ty "bool") (by rfl) T.b_bool (by decide +kernel) rfl) pa_nil))) (pe_one (pe_cmpR op_eq (pv 0) (pv 1) (nomark _)))))))
    pss_nil)
  (pss_cons (ps_if (pt_val (pe_callB call_isi (by rfl) T.b_isinstance (by decide +kernel) (pa_cons (pv 0) (pa_cons (pe_bltn (v := .ty "int") (by rfl) T.b_int (by decide +kernel) rfl) pa_nil))))
    (pss_one (ps_ret (pe_and (pe_callB call_isi (by rfl) T.b_isinstance (by decide +kernel) (pa_cons (pv 1) (pa_cons (pe_bltn (v := .ty "int") (by rfl) T.b_int (by decide +kernel) rfl) pa_nil))) (pe_one (pe_cmpR op_eq (pv 0) (pv 1) (nomark _))))))
    pss_nil)
  (pss_cons (ps_if (pt_val (pe_callB call_isi (by rfl) T.b_isinstance (by decide +kernel) (pa_cons (pv 0) (pa_cons (pe_bltn (v := .ty "str") (by rfl) T.b_str (by decide +kernel) rfl) pa_nil))))
    (pss_one (ps_ret (pe_and (pe_callB call_isi (by rfl) T.b_isinstance (by decide +kernel) (pa_cons (pv 1) (pa_cons (pe_bltn (v := .ty "str") (by rfl) T.b_str (by decide +kernel) rfl) pa_nil))) (pe_one (pe_cmpR op_eq (pv 0) (pv 1) (nomark _))))))
    pss_nil)
  (pss_cons (ps_if (pt_val (pe_callB call_isi (by rfl) T.b_isinstance (by decide +kernel) (pa_cons (pv 0) (pa_cons (pe_bltn (v := .ty "list") (by rfl) T.b_list (by decide +kernel) rfl) pa_nil))))
    (pss_one (ps_if (pt_not (pt_val (pe_callB call_isi (by rfl) T.b_isinstance (by decide +kernel) (pa_cons (pv 1) (pa_cons (pe_bltn (v := .ty "list") (by rfl) T.b_list (by decide +kernel) rfl) pa_nil)))))
        (pss_one (ps_ret pe_bl))
        pss_nil))
    (pss_one (ps_if (PW.pt (pw_or (pt_not (pt_val (pe_callB call_isi (by rfl) T.b_isinstance (by decide +kernel) (pa_cons (pv 0) (pa_cons (pe_bltn (v := .ty "tuple") (by rfl) T.b_tuple (by decide +kernel) rfl) pa_nil))))) (pw_or1 (pt_not (pt_val (pe_callB call_isi (by rfl) T.b_isinstance (by decide +kernel) (pa_cons (pv 1) (pa_cons (pe_bltn (v := .ty "tuple") (by rfl) T.b_tuple (by decide +kernel) rfl) pa_nil))))))))
        (pss_one (ps_ret pe_bl))
        pss_nil)))
  (pss_cons (ps_if (pt_cmpR op_ne (pe_callB Wk.b_len (by rfl) T.b_len (by decide +kernel) (pa_cons (pv 0) pa_nil)) (pe_callB Wk.b_len (by rfl) T.b_len (by decide +kernel) (pa_cons (pv 1) pa_nil)) (nomark _))
    (pss_one (ps_ret pe_bl))
    pss_nil)
  (pss_cons (ps_for PassesOwn.never rfl (pi_range1 rfl T.b_range (pa_cons (pe_callB Wk.b_len (by rfl) T.b_len (by decide +kernel) (pa_cons (pv 0) pa_nil)) pa_nil)) (pg_name (i := 2) sc__law_alike.nd rfl (Or.inl rfl))
    (pss_one (ps_if (pt_not (pt_val (C8.pe_c c__law_alike hr (by first | decide | omega) rfl (pa_cons (pe_ix ix_seq (pv 0) (pv 2) (fun _ _ => rfl)) (pa_cons (pe_ix ix_seq (pv 1) (pv 2) (fun _ _ => rfl)) pa_nil)))))
        (pss_one (ps_ret pe_bl))
        pss_nil)))
  (pss_one (ps_ret pe_bl))))))))), ?_⟩
    have scal : ∀ {v1 v2 d}, Sc v1 d → Sc v2 d → v1 = v2 := fun h1 h2 => by cases h1 <;> cases h2 <;> rfl
    have hd' : Sc v1 d ∧ Sc v2 d ∨ ∃ m a1 a2 xs ys ds, n = m + 1 ∧ v1 = .ref a1 ∧ v2 = .ref a2 ∧ xs.length ≤ 100000 ∧ Paired (Dn K [] H m) xs ds ∧ Paired (Dn K [] H m) ys ds ∧ ((SqL K H a1 xs ∧ SqL K H a2 ys) ∨ (SqT K H a1 xs ∧ SqT K H a2 ys)) := by
      obtain ⟨h1, h2⟩ := hd
      cases n with
      | zero => exact .inl ⟨h1, h2⟩
      | succ m =>
        rcases h1 with h1 | ⟨a, xs, ds, e1, e2, _, hq, hl, p⟩ | ⟨a, xs, ds, e1, e2, _, hq, hl, p⟩
        · rcases h2 with h2 | ⟨a', xs', ds', e1', e2', _, hq', hl', p'⟩ | ⟨a', xs', ds', e1', e2', _, hq', hl', p'⟩
          · exact .inl ⟨h1, h2⟩
          · subst e2'; cases h1
          · subst e2'; cases h1
        · subst e2
          rcases h2 with h2 | ⟨a', xs', ds', e1', e2', _, hq', hl', p'⟩ | ⟨a', xs', ds', e1', e2', _, hq', hl', p'⟩
          · cases h2
          · cases e2'
            exact .inr ⟨m, a, a', xs, xs', ds, rfl, e1, e1', hl, p, p', .inl ⟨hq, hq'⟩⟩
          · cases e2'
        · subst e2
          rcases h2 with h2 | ⟨a', xs', ds', e1', e2', _, hq', hl', p'⟩ | ⟨a', xs', ds', e1', e2', _, hq', hl', p'⟩
          · cases h2
          · cases e2'
          · cases e2'
            exact .inr ⟨m, a, a', xs, xs', ds, rfl, e1, e1', hl, p, p', .inr ⟨hq, hq'⟩⟩
    clear hd
    rcases hd' with ⟨h1, h2⟩ | ⟨m, a1, a2, xs, ys, ds, rfl, rfl, rfl, hl, p1, p2, hq⟩
    · obtain rfl := scal h1 h2
      clear h2 scal
      cases h1 <;> walk_at "s" <;> first | exact k | (simp only [decide_true]; exact k)
    · have e1 := p1.length
      have el : ys.length = xs.length := by rw [p1.length, p2.length]
      have hx : SqL K H a1 xs ∨ SqT K H a1 xs := hq.elim (fun z => .inl z.1) fun z => .inr z.1
      have hy : SqL K H a2 ys ∨ SqT K H a2 ys := hq.elim (fun z => .inl z.2) fun z => .inr z.2
      have rest : ∀ (lp : TS) (D : Ends), True := fun _ _ => trivial
      rcases hq with ⟨q1, q2⟩ | ⟨q1, q2⟩
      all_goals
        walk_at "s"
        refine c_lenA hx ?_
        walk_at "s"
        refine c_lenA hy ?_
        rw [el]
        walk_at "s"
        refine c_lenA hx ?_
        walk_at "s"
        refine l_range rfl (by omega) (fun i σ H2 => H2 = H ∧ ∃ v, σ = [some (.ref a1), some (.ref a2), v]) ⟨rfl, none, rfl⟩ ?_ ?_
        · rintro i σ H2 hi ⟨rfl, v, rfl⟩
          obtain ⟨d0, hd0, z1⟩ := paired_at p1 (List.getElem?_eq_getElem hi)
          obtain ⟨d1, hd1, z2⟩ := paired_at p2 (List.getElem?_eq_getElem (by omega : i < ys.length))
          rw [hd0] at hd1
          cases hd1
          walk_at "s"
          refine w_ixAny hx (atI_nat (List.getElem?_eq_getElem hi)) ?_
          walk_at "s"
          refine w_ixAny hy (atI_nat (List.getElem?_eq_getElem (by omega : i < ys.length))) ?_
          walk_at "s"
          refine ⟨_, _, d0, rfl, ⟨z1, z2⟩, ?_⟩
          walk_at "s"
          exact ⟨rfl, _, rfl⟩
        · rintro σ H2 ⟨rfl, v, rfl⟩
          walk_at "s"
          exact k
theorem cal_false {x : Str} {st : Stmt} {k : Nat} {sp : Sp} {ps : List Str} (d : DefAt K mg x st)
    (hb : ∀ (kV doc pm : Value) (an : Option Addr) (cdv ct : Value) (us : List Value), us.length = ps.length → bindArgs (PySem.W.fnOf x x (defArgs st) (defBody st) (defScope st) .none kV doc pm an cdv ct) ⟨us, []⟩ = pure (ps.zip us))
    (h : ∀ vs H Q E, sp vs H Q E → False) : C8.Cal P w K mg base k x sp [] := by
  obtain ⟨f, fd, F, hm⟩ := d
  exact ⟨f, fd, ps, [], ⟨fun vs H Q E z => (h _ _ _ _ z).elim, fun A outer s H args us vs Q E _ _ _ _ z => (h _ _ _ _ z).elim⟩, hm, F.kp, F.bindsN hb, .nil⟩
theorem c_alike (T : Txt K mg aREG aOPS) (d : DefAt K mg "_law_alike" s__law_alike) : ∀ n : Nat, C8.Cal P w K mg base n "_law_alike" (sp_alike K n) []
  | 0 => cal_false (ps := ["one", "two"]) d (fun _ _ _ _ _ _ us hl => match us, hl with | [_, _], _ => rfl) fun vs H Q E ⟨_, _, _, _, z, _⟩ => z
  | n + 1 => alike_step n T d (c_alike T d n)
theorem u_alike {n : Nat} {v1 v2 : V} {d : PyData} {H : Hp} {Q : VK} {E : XK} (h1 : Dn K [] H n v1 d) (h2 : Dn K [] H n v2 d) (q : Q (.bl true) H) : sp_alike K (n + 1) [v1, v2] H Q E := ⟨v1, v2, d, rfl, ⟨h1, h2⟩, q⟩
end
end K05
set_option Elab.async false
set_option linter.all false
set_option maxRecDepth 100000
set_option maxHeartbeats 4000000
namespace K05
open PySem PySem.Spec PyProof.Rows L2 Wk
local macro_rules | `(tactic| walk_at "u1") => `(tactic| fail "no more")
local macro_rules | `(tactic| walk_at "pos") => `(tactic| first | assumption | omega | decide | (simp only [Int.ofNat_eq_natCast] at *; omega))
local macro_rules | `(tactic| walk_at "sz") => `(tactic| first
  | (simp only [List.length_cons, List.length_nil]; decide)
  | exact Evl.sz_of (by omega)
  | exact Evl.sz_lt (by omega)
  | exact Evl.sz_of (by simp only [List.length_map, List.length_append, List.length_cons, List.length_nil, List.length_replicate]; omega)
  | exact Evl.sz_lt (by simp only [List.length_map, List.length_append, List.length_cons, List.length_nil, List.length_replicate]; omega))
local macro_rules | `(tactic| walk_at "cond") => `(tactic| first
  | exact Or.inr ⟨by decide, by decide⟩
  | (show (0 : Int) < _; first | decide | assumption | omega)
  | exact Or.inl ⟨by omega, by omega⟩
  | exact Or.inr ⟨by omega, by omega⟩
  | exact ⟨by decide, by decide, by decide⟩
  | exact log2_lt (by omega) (by omega)
  | exact ⟨by omega, by omega⟩)
local macro_rules | `(tactic| walk_at "ty") => `(tactic| first
  | exact ty_int | exact ty_bl | exact ty_str | exact ty_non
  | exact ty_L (by assumption) | exact ty_T (by assumption)
  | exact ty_L (SqL.of (by assumption)) | exact ty_T (SqT.of (by assumption)))
local macro_rules | `(tactic| walk_at "kit") => `(tactic| first
  | exact k_ii | exact k_ib | exact k_is | exact k_il | exact k_it
  | exact k_bb | exact k_bi | exact k_bs | exact k_bl | exact k_bt
  | exact k_ss | exact k_sb | exact k_si | exact k_sl | exact k_st
  | exact k_ll | exact k_lb | exact k_li | exact k_ls | exact k_lt
  | exact k_tt | exact k_tb | exact k_ti | exact k_ts | exact k_tl
  | exact k_nn | exact k_ni | exact k_ns | exact k_nl | exact k_nt)
local macro_rules | `(tactic| walk_at "s1") => `(tactic| first
  | with_reducible refine w_seq ?_
  | with_reducible refine w_set ?_
  | with_reducible refine w_op ?_
  | ((with_reducible refine' w_var ?h1 ?_); (case h1 => rfl))
  | with_reducible refine w_c ?_
  | with_reducible refine w_cb ?_
  | with_reducible refine w_cons ?_
  | with_reducible refine w_nil ?_
  | with_reducible refine w_I0 ?_
  | ((with_reducible refine' w_I ?c1 ?_); case c1 => walk_at "cond")
  | with_reducible refine w_ret ?_
  | with_reducible refine w_next ?_
  | with_reducible refine w_ifS ?_
  | with_reducible refine w_test ?_
  | with_reducible refine w_tB ?_
  | with_reducible refine w_k ?_
  | with_reducible refine w_eqI ?_
  | with_reducible refine w_neI ?_
  | with_reducible refine w_eqS ?_
  | with_reducible refine w_neS ?_
  | with_reducible refine w_and ?_
  | with_reducible refine w_or ?_
  | with_reducible refine w_not ?_
  | with_reducible refine w_andV ?_
  | with_reducible refine w_orV ?_
  | with_reducible refine w_notV ?_
  | with_reducible refine w_ifE ?_
  | with_reducible refine w_true ?_
  | with_reducible refine w_false ?_
  | with_reducible refine w_ntrue ?_
  | with_reducible refine w_nfalse ?_
  | with_reducible refine w_call ?_
  | with_reducible refine c_int ?_
  | with_reducible refine c_abs ?_
  | with_reducible refine c_max ?_
  | with_reducible refine c_min ?_
  | with_reducible refine w_drop ?_
  | with_reducible refine w_sfld ?_
  | with_reducible refine w_meth ?_
  | with_reducible refine w_make ?_
  | with_reducible refine w_prop ?_
  | with_reducible refine w_callK ?_
  | with_reducible refine w_callN ?_
  | with_reducible refine w_star ?_
  | with_reducible refine w_gcons ?_
  | with_reducible refine w_gname ?_
  | with_reducible refine w_gnil ?_
  | with_reducible refine w_retN ?_
  | with_reducible refine w_tup ?_
  | with_reducible refine w_lst ?_
  | with_reducible refine w_fld ?_
  | with_reducible refine w_bm ?_
  | with_reducible refine w_bm0 ?_
  | with_reducible refine w_forL ?_
  | with_reducible refine w_forT ?_
  | with_reducible refine w_forS ?_
  | with_reducible refine w_forR ?_
  | with_reducible refine w_lcR ?_
  | with_reducible refine w_lcL ?_
  | with_reducible refine w_lcT ?_
  | with_reducible refine w_isN ?_
  | with_reducible refine w_notN ?_
  | with_reducible refine w_asg ?_
  | with_reducible refine w_gsub ?_
  | ((with_reducible refine' w_aug ?h1 ?_); (case h1 => rfl))
  | with_reducible refine w_augS ?_
  | with_reducible refine w_ipI ?_
  | with_reducible refine w_un ?_
  | with_reducible refine w_U ?_
  | ((with_reducible refine' w_iteF ?f1 ?_); case f1 => (first | (intro h; cases h; done) | decide))
  | ((with_reducible refine' w_iteT ?f1 ?_); case f1 => rfl)
  | ((with_reducible refine' w_iteNF ?f1 ?_); case f1 => rfl)
  | ((with_reducible refine' w_iteNT ?f1 ?_); case f1 => (first | (intro h; cases h; done) | decide))
  | ((with_reducible refine' c_isi ?t1 ?k1 ?_); (case t1 => walk_at "ty"); (case k1 => walk_at "kit"))
  | ((with_reducible refine' w_eq ?e1 ?_); case e1 => rfl)
  | ((with_reducible refine' w_ne ?e1 ?_); case e1 => rfl)
  | walk_at "u1")
local macro_rules | `(tactic| walk_at "s") => `(tactic| repeat walk_at "s1")
local macro_rules | `(tactic| walk_at "mem") => `(tactic| first | with_reducible exact List.mem_cons_self .. | ((with_reducible refine' List.mem_cons_of_mem _ ?q); (case q => walk_at "mem")) | assumption | ((with_reducible refine' List.mem_append_right _ ?q); (case q => walk_at "mem")) | (exact List.mem_append_left _ (by assumption)))
local macro_rules | `(tactic| walk_at "pk") => `(tactic| first | with_reducible exact Pk.here | ((with_reducible refine' Pk.there ?q); (case q => walk_at "pk")) | ((with_reducible refine' Pk.app ?q); (case q => walk_at "pk")))
local macro_rules | `(tactic| walk_at "pkb") => `(tactic| first | with_reducible exact PkB.here | ((with_reducible refine' PkB.there ?q); (case q => walk_at "pkb")) | ((with_reducible refine' PkB.app ?q); (case q => walk_at "pkb")))
local macro_rules | `(tactic| walk_at "spl") => `(tactic| first | with_reducible exact Spl.nil | ((with_reducible refine' Spl.cons ?h ?t); (case h => walk_at "pk"); (case t => walk_at "spl")) | ((with_reducible refine' Spl.blk ?h ?t); (case h => walk_at "pkb"); (case t => walk_at "spl")))
local macro_rules | `(tactic| walk_at "sbx") => `(tactic| first | with_reducible exact Sb.refl | with_reducible exact Sb.nil | with_reducible exact Sb.left | ((with_reducible refine' Sb.cons ?h ?t); (case h => walk_at "pk"); (case t => walk_at "sbx")) | ((with_reducible refine' Sb.blk ?h ?t); (case h => walk_at "pkb"); (case t => walk_at "sbx")) | ((with_reducible refine' Sb.drop ?q); (case q => walk_at "sbx")) | ((with_reducible refine' Sb.right ?q); (case q => walk_at "sbx")))
local macro_rules | `(tactic| walk_at "hd") => `(tactic| first | assumption | exact Hd.sb (by assumption) (by walk_at "sbx"))
local macro_rules | `(tactic| walk_at "sq") => `(tactic| first
  | assumption
  | exact Hd.sqL (by assumption) (by walk_at "mem")
  | exact Hd.sqT (by assumption) (by walk_at "mem")
  | exact Hd.sqF (by assumption) (by walk_at "mem")
  | (refine .inl ?_; walk_at "sq")
  | (refine .inr ?_; walk_at "sq"))
local macro_rules | `(tactic| walk_at "at") => `(tactic| first | rfl | assumption | exact atI_nat (by assumption))
local macro_rules | `(tactic| walk_at "dn1") => `(tactic| first
  | exact Dn.int | exact Dn.str | exact Dn.non | exact Dn.bl | assumption
  | ((refine' Dn.tp ?a1 ?m1 ?l1 ?p1); (case a1 => assumption); (case m1 => walk_at "mem"); (case l1 => (simp only [List.length_cons, List.length_nil]; omega)); (case p1 => walk_at "dns"))
  | ((refine' Dn.lt ?a1 ?m1 ?l1 ?p1); (case a1 => assumption); (case m1 => walk_at "mem"); (case l1 => (simp only [List.length_cons, List.length_nil]; omega)); (case p1 => walk_at "dns")))
local macro_rules | `(tactic| walk_at "dns") => `(tactic| first | exact Paired.nil | exact Dn.ints | ((refine' Paired.cons ?a1 ?b1); (case a1 => walk_at "dn1"); (case b1 => walk_at "dns")))
local macro_rules | `(tactic| walk_at "g1") => `(tactic| first
  | ((with_reducible refine' g_ixI ?h1 ?h2 ?h3 ?_); (case h1 => assumption); (case h2 => walk_at "mem"); (case h3 => omega); intro z hz)
  | ((with_reducible refine' g_ixIT ?h1 ?h2 ?h3 ?_); (case h1 => assumption); (case h2 => walk_at "mem"); (case h3 => omega); intro z hz)
  | ((with_reducible refine' g_setI ?h1 ?h2 ?h3 ?_); (case h1 => assumption); (case h2 => walk_at "pk"); (case h3 => omega); intro H2 hh2)
  | ((with_reducible refine' w_ixL ?h1 ?h2 ?_); (case h1 => walk_at "sq"); (case h2 => walk_at "at"))
  | ((with_reducible refine' w_ixT ?h1 ?h2 ?_); (case h1 => walk_at "sq"); (case h2 => walk_at "at"))
  | ((with_reducible refine' w_ixAny ?h1 ?h2 ?_); (case h1 => walk_at "sq"); (case h2 => walk_at "at"))
  | ((with_reducible refine' c_lenA ?h1 ?_); (case h1 => walk_at "sq"))
  | ((with_reducible refine' c_isi ?t1 ?k1 ?_); (case t1 => first | exact ty_T (by walk_at "sq") | exact ty_L (by walk_at "sq")); (case k1 => walk_at "kit"))
  | ((with_reducible refine' g_lst ?h1 ?h2 ?_); (case h1 => assumption); (case h2 => walk_at "sz"); intro p H2 hh2)
  | ((with_reducible refine' g_tup ?h1 ?h2 ?_); (case h1 => assumption); (case h2 => walk_at "sz"); intro p H2 hh2)
  | ((with_reducible refine' g_dict ?h1 ?_); (case h1 => assumption); intro p H2 hh2)
  | ((with_reducible refine' g_listL ?h1 ?h2 ?_); (case h1 => assumption); (case h2 => walk_at "sq"); intro p H2 hh2)
  | ((with_reducible refine' g_listT ?h1 ?h2 ?_); (case h1 => assumption); (case h2 => walk_at "sq"); intro p H2 hh2)
  | ((with_reducible refine' g_tupL ?h1 ?h2 ?_); (case h1 => assumption); (case h2 => walk_at "sq"); intro p H2 hh2)
  | ((with_reducible refine' g_set ?h1 ?h2 ?h3 ?_); (case h1 => assumption); (case h2 => walk_at "pk"); (case h3 => first | rfl | assumption | exact Evl.ixN_nat (by first | omega | (simp only [List.length_cons, List.length_nil]; omega))); intro H2 hh2)
  | ((with_reducible refine' g_kbm ?h1 ?h2 ?_); (case h1 => assumption); (case h2 => walk_at "mem"))
  | ((with_reducible refine' g_kbm0 ?h1 ?h2 ?_); (case h1 => assumption); (case h2 => walk_at "mem"))
  | ((with_reducible refine' g_app ?h1 ?h2 ?h3 ?_); (case h1 => assumption); (case h2 => walk_at "pk"); (case h3 => walk_at "sz"); intro H2 hh2)
  | ((with_reducible refine' g_kapp ?h1 ?h2 ?h3 ?_); (case h1 => assumption); (case h2 => walk_at "pk"); (case h3 => walk_at "sz"); intro H2 hh2)
  | ((with_reducible refine' g_fld ?h1 ?h2 ?h3 ?h4 ?h5 ?_); (case h1 => assumption); (case h2 => walk_at "mem"); (case h3 => assumption); (case h4 => assumption); (case h5 => rfl))
  | ((with_reducible refine' g_sfld ?h1 ?h2 ?h3 ?h4 ?h5 ?_); (case h1 => assumption); (case h2 => walk_at "pk"); (case h3 => assumption); (case h4 => assumption); (case h5 => decide); intro H2 hh2)
  | ((with_reducible refine' g_meth ?h1 ?h2 ?h3 ?_); (case h1 => assumption); (case h2 => walk_at "mem"); (case h3 => rfl))
  | ((with_reducible refine' g_prop ?h1 ?h2 ?_); (case h1 => assumption); (case h2 => walk_at "mem"))
  | ((with_reducible refine' g_make ?h1 ?_); (case h1 => assumption); intro x H2 hh2)
  | ((with_reducible refine' g_cat ?h1 ?h2 ?h3 ?h4 ?_); (case h1 => assumption); (case h2 => walk_at "mem"); (case h3 => walk_at "mem"); (case h4 => walk_at "sz"); intro p H2 hh2)
  | ((with_reducible refine' g_inT ?h1 ?h2 ?h3 ?h4 ?h5 ?_); (case h1 => assumption); (case h2 => walk_at "mem"); (case h3 => rfl); (case h4 => rfl); (case h5 => rfl)))
local macro_rules | `(tactic| walk_at "gs") => `(tactic| repeat first | walk_at "s1" | walk_at "g1")
local macro_rules | `(tactic| walk_at "ite") => `(tactic| first
  | ((with_reducible refine' w_iteT ?h1 ?_); (case h1 => omega))
  | ((with_reducible refine' w_iteF ?h1 ?_); (case h1 => omega))
  | (with_reducible refine w_ite ?_ ?_ <;> intro hq)
  | ((with_reducible refine' w_iteNT ?h1 ?_); (case h1 => omega))
  | ((with_reducible refine' w_iteNF ?h1 ?_); (case h1 => omega))
  | (with_reducible refine w_iteN ?_ ?_ <;> intro hq))
local macro_rules | `(tactic| walk_at "go") => `(tactic| repeat' first | walk_at "s1" | walk_at "g1" | walk_at "ite")
section
variable {P : Program} {w : World} {K : PySem.W.Frag} {mg : Str → Option Value} {base : Heap} {aREG aOPS : Addr}
def isR (v : V) (lo hi : Int) : Bool := match v with
  | .int i => decide (lo ≤ i ∧ i ≤ hi)
  | _ => false
def isI (v : V) : Bool := match v with
  | .int _ => true
  | _ => false
abbrev isW (v : V) : Bool := isR v 0 65535
section
variable {D : Nat} {G : Pins} {f g h : Addr} {fd gd kd : FuncData} {v : V} {t : String} {lo hi : Int}
theorem rf_integer (T : Txt K mg aREG aOPS) (M : Mod K mg base) (d : FunT K "is_integer" s_is_integer f fd) (kv : KV G v t) (hD : D < recursionLimit) : RF P w base D f [v] G (.bl (isI v)) := by
  refine rf_of d M sc_is_integer (by decide +kernel) (by decide +kernel) (fun _ _ _ _ _ _ us hl => match us, hl with | [_], _ => rfl) rfl (by omega) fun env c => ?_
  have hx : ∀ {p : Pos}, RE P w base (D + 1) env ([(("x" : Str), v)]) G (.Name "x" p) v := fun {p} => re_name c rfl (List.mem_cons_self ..)
  have hi : ∀ {p : Pos}, RE P w base (D + 1) env ([(("x" : Str), v)]) G (.Name "int" p) (.ty "int") := fun {p} => re_blt M c rfl T.b_int (by rfl) rfl
  have hb : ∀ {p : Pos}, RE P w base (D + 1) env ([(("x" : Str), v)]) G (.Name "bool" p) (.ty "bool") := fun {p} => re_blt M c rfl T.b_bool (by rfl) rfl
  cases kv with
  | int => exact re_andT (re_isi M c rfl T.b_isinstance hx hi .int (kit_ty k_ii)) (re_not (re_isi M c rfl T.b_isinstance hx hb .int (kit_ty k_ib)))
  | bl => exact re_andT (re_isi M c rfl T.b_isinstance hx hi .bl (kit_ty k_bi)) (re_not (re_isi M c rfl T.b_isinstance hx hb .bl (kit_ty k_bb)))
  | non => exact re_andF (re_isi M c rfl T.b_isinstance hx hi .non (kit_ty k_ni))
  | str => exact re_andF (re_isi M c rfl T.b_isinstance hx hi .str (kit_ty k_si))
  | lst q1 q2 => exact re_andF (re_isi M c rfl T.b_isinstance hx hi (.lst q1 q2) (kit_ty k_li))
  | tup q1 q2 => exact re_andF (re_isi M c rfl T.b_isinstance hx hi (.tup q1 q2) (kit_ty k_ti))
  | dct q1 q2 => exact re_andF (re_isi M c rfl T.b_isinstance hx hi (.dct q1 q2) (kit_ty (by decide +kernel)))
theorem rf_range (T : Txt K mg aREG aOPS) (M : Mod K mg base) (d1 : FunT K "is_integer" s_is_integer f fd) (m1 : mg "is_integer" = some (.ref f)) (d : FunT K "is_in_range" s_is_in_range g gd) (kv : KV G v t) (hD : D + 1 < recursionLimit) : RF P w base D g [v, .int lo, .int hi] G (.bl (isR v lo hi)) := by
  refine rf_of d M sc_is_in_range (by decide +kernel) (by decide +kernel) (fun _ _ _ _ _ _ us hl => match us, hl with | [_, _, _], _ => rfl) rfl (by omega) fun env c => ?_
  have F := rf_integer (P := P) (w := w) (D := D + 1) T M d1 kv (by omega)
  have hx : ∀ {p : Pos}, RE P w base (D + 1) env ([(("x" : Str), v), (("least" : Str), .int lo), (("most" : Str), .int hi)]) G (.Name "x" p) v := fun {p} => re_name c rfl (List.mem_cons_self ..)
  cases v with
  | int i =>
    refine re_andT (re_call M c rfl m1 d1.kp F (ra_cons hx ra_nil)) (re_chain ?_ hx ?_)
    · exact re_name c rfl (List.mem_cons_of_mem _ (List.mem_cons_self ..))
    · exact re_name c rfl (List.mem_cons_of_mem _ (List.mem_cons_of_mem _ (List.mem_cons_self ..)))
  | _ => exact re_andF (re_call M c rfl m1 d1.kp F (ra_cons hx ra_nil))
theorem rf_word (T : Txt K mg aREG aOPS) (M : Mod K mg base) (d1 : FunT K "is_integer" s_is_integer f fd) (m1 : mg "is_integer" = some (.ref f)) (d2 : FunT K "is_in_range" s_is_in_range g gd) (m2 : mg "is_in_range" = some (.ref g)) (d : FunT K "is_word" s_is_word h kd) (kv : KV G v t) (hD : D + 2 < recursionLimit) : RF P w base D h [v] G (.bl (isW v)) := by
  refine rf_of d M sc_is_word (by decide +kernel) (by decide +kernel) (fun _ _ _ _ _ _ us hl => match us, hl with | [_], _ => rfl) rfl (by omega) fun env c => ?_
  have F := rf_range (P := P) (w := w) (D := D + 1) (lo := 0) (hi := 65535) T M d1 m1 d2 kv (by omega)
  have hx : ∀ {p : Pos}, RE P w base (D + 1) env ([(("x" : Str), v)]) G (.Name "x" p) v := fun {p} => re_name c rfl (List.mem_cons_self ..)
  obtain ⟨u, e1, e2⟩ := T.g_WORDS
  exact re_call M c rfl m2 d2.kp F (ra_cons hx (ra_cons re_int (ra_cons (re_sub (re_glob M c rfl e1 e2) re_int) ra_nil)))
end
theorem kh_ty {H : Hp} {v : V} {t : String} (h : KH K H v t) : TyX K H v (.type t) := by
  cases h with
  | non => exact ty_non
  | bl => exact ty_bl
  | int => exact ty_int
  | str => exact ty_str
  | lst e => exact ty_L e
  | tup e => exact ty_T e
def sp_integer (K : PySem.W.Frag) : Sp := fun vs H Q _ => ∃ (v : V) (t : String), vs = [v] ∧ KH K H v t ∧ Q (.bl (isI v)) H
theorem c_integer (T : Txt K mg aREG aOPS) (d : DefAt K mg "is_integer" s_is_integer) : C8.Cal P w K mg base 1 "is_integer" (sp_integer K) [] := by
  refine mk d sc_is_integer (fun _ _ _ _ _ _ us hl => match us, hl with | [_], _ => rfl) (fun vs H Q E h => ?_) (fun f cdv A outer s H vs Q E hr h => ?_)
  · obtain ⟨v, t, rfl, _⟩ := h
    rfl
  · obtain ⟨v, t, rfl, kh, q⟩ := h
    refine ⟨_, (pss_one (ps_ret (pe_and (pe_callB call_isi (by rfl) T.b_isinstance (by decide +kernel) (pa_cons (pv 0) (pa_cons (pe_bltn (v := .ty "int") (by rfl) T.b_int (by decide +kernel) rfl) pa_nil))) (pe_one (pe_not (pe_callB call_isi (by rfl) T.b_isinstance (by decide +kernel) (pa_cons (pv 0) (pa_cons (pe_bltn (v := .ty "bool") (by rfl) T.b_bool (by decide +kernel) rfl) pa_nil)))))))), ?_⟩
    have ty := kh_ty kh
    cases kh <;> (walk_at "s"; exact q)
theorem u_integer {H : Hp} {v : V} {t : String} {Q : VK} {E : XK} (kh : KH K H v t) (q : Q (.bl (isI v)) H) : sp_integer K [v] H Q E := ⟨v, t, rfl, kh, q⟩
def sp_range (K : PySem.W.Frag) : Sp := fun vs H Q _ => ∃ (v : V) (t : String) (lo hi : Int), vs = [v, .int lo, .int hi] ∧ KH K H v t ∧ Q (.bl (isR v lo hi)) H
theorem u_range {H : Hp} {v : V} {t : String} {lo hi : Int} {Q : VK} {E : XK} (kh : KH K H v t) (q : Q (.bl (isR v lo hi)) H) : sp_range K [v, .int lo, .int hi] H Q E := ⟨v, t, lo, hi, rfl, kh, q⟩
theorem c_range (T : Txt K mg aREG aOPS) (d : DefAt K mg "is_in_range" s_is_in_range) (c_is_integer : C8.Cal P w K mg base 1 "is_integer" (sp_integer K) []) : C8.Cal P w K mg base 2 "is_in_range" (sp_range K) [] := by
  refine mk d sc_is_in_range (fun _ _ _ _ _ _ us hl => match us, hl with | [_, _, _], _ => rfl) (fun vs H Q E h => ?_) (fun f cdv A outer s H vs Q E hr h => ?_)
  · obtain ⟨v, t, lo, hi, rfl, _⟩ := h
    rfl
  · obtain ⟨v, t, lo, hi, rfl, kh, q⟩ := h
    refine ⟨_, (pss_one (ps_ret (pe_and (C8.pe_c c_is_integer hr (by first | decide | omega) rfl (pa_cons (pv 0) pa_nil)) (pe_one (pe_chain op_le op_le (pv 1) (pv 0) (pv 2)))))), ?_⟩
    walk_at "s"
    refine u_integer kh ?_
    cases kh with
    | int =>
      walk_at "s"
      show tChain (rI0 fun i j => V.bl (decide (i ≤ j))) (rI0 fun i j => V.bl (decide (i ≤ j))) (tVar 1) (tVar 0) (tVar 2) _ H _
      rename_i i
      refine ⟨_, rfl, _, rfl, _, _, rfl, rfl, _, rfl, ?_⟩
      by_cases h1 : lo ≤ i
      · rw [decide_eq_true h1]
        refine ⟨_, rfl, _, _, rfl, rfl, ?_⟩
        have e : decide (i ≤ hi) = isR (.int i) lo hi := by simp [isR, h1]
        show Q (.bl (decide (i ≤ hi))) H
        rw [e]
        exact q
      · rw [decide_eq_false h1]
        have e : false = isR (.int i) lo hi := by simp [isR, h1]
        show Q (.bl false) H
        rw [e]
        exact q
    | _ =>
      walk_at "s"
      exact q
def sp_word1 (K : PySem.W.Frag) : Sp := fun vs H Q _ => ∃ (v : V) (t : String), vs = [v] ∧ KH K H v t ∧ Q (.bl (isW v)) H
theorem u_isword {H : Hp} {v : V} {t : String} {Q : VK} {E : XK} (kh : KH K H v t) (q : Q (.bl (isW v)) H) : sp_word1 K [v] H Q E := ⟨v, t, rfl, kh, q⟩
theorem c_isword (T : Txt K mg aREG aOPS) (d : DefAt K mg "is_word" s_is_word) (c_is_in_range : C8.Cal P w K mg base 2 "is_in_range" (sp_range K) []) : C8.Cal P w K mg base 3 "is_word" (sp_word1 K) [] := by
  refine mk d sc_is_word (fun _ _ _ _ _ _ us hl => match us, hl with | [_], _ => rfl) (fun vs H Q E h => ?_) (fun f cdv A outer s H vs Q E hr h => ?_)
  · obtain ⟨v, t, rfl, _⟩ := h
    rfl
  · obtain ⟨v, t, rfl, kh, q⟩ := h
    refine ⟨_, (pss_one (ps_ret (C8.pe_c c_is_in_range hr (by first | decide | omega) rfl (pa_cons (pv 0) (pa_cons pe_int (pa_cons (pe_op op_sub (C8.pe_gc rfl T.g_WORDS) pe_int) pa_nil)))))), ?_⟩
    walk_at "s"
    exact u_range kh q
/-- are_words -/
def sp_words (K : PySem.W.Frag) (tP : Addr) : Sp := fun vs H Q _ => ∃ (y : Addr) (xs : List V), vs = [.ref y] ∧ (SqL K H y xs ∨ SqT K H y xs) ∧ (∀ v ∈ xs, ∃ t, KH K H v t) ∧ GxR.TabG H tP ∧ ∀ H2, GxR.Tabbed tP H H2 → Q (.bl (xs.all isW)) H2
theorem c_words {c tP : Addr} (T : Txt K mg aREG aOPS) (TB : GxR.TabB base mg c tP) (d : DefAtC K mg "are_words" s_are_words c) (d1 : DefAt K mg "is_integer" s_is_integer) (d2 : DefAt K mg "is_in_range" s_is_in_range) (d3 : DefAt K mg "is_word" s_is_word) : C8.Cal P w K mg base 4 "are_words" (sp_words K tP) [] := by
  obtain ⟨f1, fd1, F1, m1⟩ := d1
  obtain ⟨f2, fd2, F2, m2⟩ := d2
  obtain ⟨f3, fd3, F3, m3⟩ := d3
  refine mkC d sc_are_words (fun _ _ _ _ _ _ us hl => match us, hl with | [_], _ => rfl) (fun vs H Q E h => ?_) (fun f A outer s H vs Q E hr h => ?_)
  · obtain ⟨y, xs, rfl, _⟩ := h
    rfl
  · obtain ⟨y, xs, rfl, hy, hk, hT, q⟩ := h
    have hD : (A.deeper (envOfC "are_words" (defScope s_are_words) s.heap.objs.size f (.ref c))).depth + 1 + 2 < recursionLimit := by have := hr.dp; omega
    refine ⟨_, pss_one (ps_ret (pe_allV (pb := isW) hr rfl T.b_all TB rfl ⟨rfl, rfl, by decide +kernel, rfl, rfl, fun y hy hf => absurd hf (by revert y; decide +kernel)⟩ (pv 0) (fun M cenv G v t rc kv => ?_) (fun _ => rfl))), ?_⟩
    · exact re_call M rc rfl m3 F3.kp (rf_word (f := f1) (g := f2) T M F1 m1 F2 m2 F3 kv hD) (ra_cons (re_name rc rfl (List.mem_cons_self ..)) ra_nil)
    · walk_at "s"
      exact ⟨_, rfl, y, xs, rfl, hy, hk, hT, q⟩
theorem u_words {tP y : Addr} {xs : List V} {r : Bool} {H : Hp} {Q : VK} {E : XK} (hy : SqL K H y xs ∨ SqT K H y xs) (hk : ∀ v ∈ xs, ∃ t, KH K H v t) (hT : GxR.TabG H tP) (e : xs.all isW = r) (q : ∀ H2, GxR.TabG H2 tP → Upt [tP] H H2 → Q (.bl r) H2) : sp_words K tP [.ref y] H Q E :=
  ⟨y, xs, rfl, hy, hk, hT, fun H2 h => e ▸ q H2 h.1 fun b o n e => (h.2 b fun z => n (List.mem_singleton.mpr z)).trans e⟩
def sp_ask (K : PySem.W.Frag) : Sp := fun vs H Q _ => ∃ (z : Str) (v : V) (t : String) (lo hi : Int), vs = [.str z, v, .int lo, .int hi] ∧ KH K H v t ∧ isR v lo hi = true ∧ Q .non H
theorem u_ask {H : Hp} {z : Str} {i lo hi : Int} {Q : VK} {E : XK} (h : lo ≤ i ∧ i ≤ hi) (q : Q .non H) : sp_ask K [.str z, .int i, .int lo, .int hi] H Q E := ⟨z, .int i, "int", lo, hi, rfl, .int, decide_eq_true h, q⟩
theorem c_ask (T : Txt K mg aREG aOPS) (d : DefAt K mg "ask_range" s_ask_range) (c_is_in_range : C8.Cal P w K mg base 2 "is_in_range" (sp_range K) []) : C8.Cal P w K mg base 3 "ask_range" (sp_ask K) [] := by
  refine mk d sc_ask_range (fun _ _ _ _ _ _ us hl => match us, hl with | [_, _, _, _], _ => rfl) (fun vs H Q E h => ?_) (fun f cdv A outer s H vs Q E hr h => ?_)
  · obtain ⟨z, v, t, lo, hi, rfl, _⟩ := h
    rfl
  · obtain ⟨z, v, t, lo, hi, rfl, kh, hb, q⟩ := h
    refine ⟨_, (pss_one (ps_if (pt_not (pt_val (C8.pe_c c_is_in_range hr (by first | decide | omega) rfl (pa_cons (pv 1) (pa_cons (pv 2) (pa_cons (pv 3) pa_nil))))))
    (pss_one ps_never)
    pss_nil)), ?_⟩
    walk_at "s"
    refine u_range kh ?_
    rw [hb]
    walk_at "s"
    exact q
def sp_askW (K : PySem.W.Frag) : Sp := fun vs H Q _ => ∃ (z : Str) (v : V) (t : String), vs = [.str z, v] ∧ KH K H v t ∧ isW v = true ∧ Q .non H
theorem u_askW {H : Hp} {z : Str} {i : Int} {Q : VK} {E : XK} (h : 0 ≤ i ∧ i ≤ 65535) (q : Q .non H) : sp_askW K [.str z, .int i] H Q E := ⟨z, .int i, "int", rfl, .int, decide_eq_true h, q⟩
theorem c_askW (T : Txt K mg aREG aOPS) (d : DefAt K mg "ask_word" s_ask_word) (c_is_word : C8.Cal P w K mg base 3 "is_word" (sp_word1 K) []) : C8.Cal P w K mg base 4 "ask_word" (sp_askW K) [] := by
  refine mk d sc_ask_word (fun _ _ _ _ _ _ us hl => match us, hl with | [_, _], _ => rfl) (fun vs H Q E h => ?_) (fun f cdv A outer s H vs Q E hr h => ?_)
  · obtain ⟨z, v, t, rfl, _⟩ := h
    rfl
  · obtain ⟨z, v, t, rfl, kh, hb, q⟩ := h
    refine ⟨_, (pss_one (ps_if (pt_not (pt_val (C8.pe_c c_is_word hr (by first | decide | omega) rfl (pa_cons (pv 1) pa_nil))))
    (pss_one ps_never)
    pss_nil)), ?_⟩
    walk_at "s"
    refine u_isword kh ?_
    rw [hb]
    walk_at "s"
    exact q
end
end K05
set_option Elab.async false
set_option linter.all false
set_option maxRecDepth 100000
set_option maxHeartbeats 4000000
namespace K05
open PySem PySem.Spec PyProof.Rows L2 Wk
local macro_rules | `(tactic| walk_at "u1") => `(tactic| fail "no more")
local macro_rules | `(tactic| walk_at "pos") => `(tactic| first | assumption | omega | decide | (simp only [Int.ofNat_eq_natCast] at *; omega))
local macro_rules | `(tactic| walk_at "sz") => `(tactic| first
  | (simp only [List.length_cons, List.length_nil]; decide)
  | exact Evl.sz_of (by omega)
  | exact Evl.sz_lt (by omega)
  | exact Evl.sz_of (by simp only [List.length_map, List.length_append, List.length_cons, List.length_nil, List.length_replicate]; omega)
  | exact Evl.sz_lt (by simp only [List.length_map, List.length_append, List.length_cons, List.length_nil, List.length_replicate]; omega))
local macro_rules | `(tactic| walk_at "cond") => `(tactic| first
  | exact Or.inr ⟨by decide, by decide⟩
  | (show (0 : Int) < _; first | decide | assumption | omega)
  | exact Or.inl ⟨by omega, by omega⟩
  | exact Or.inr ⟨by omega, by omega⟩
  | exact ⟨by decide, by decide, by decide⟩
  | exact log2_lt (by omega) (by omega)
  | exact ⟨by omega, by omega⟩)
local macro_rules | `(tactic| walk_at "ty") => `(tactic| first
  | exact ty_int | exact ty_bl | exact ty_str | exact ty_non
  | exact ty_L (by assumption) | exact ty_T (by assumption)
  | exact ty_L (SqL.of (by assumption)) | exact ty_T (SqT.of (by assumption)))
local macro_rules | `(tactic| walk_at "kit") => `(tactic| first
  | exact k_ii | exact k_ib | exact k_is | exact k_il | exact k_it
  | exact k_bb | exact k_bi | exact k_bs | exact k_bl | exact k_bt
  | exact k_ss | exact k_sb | exact k_si | exact k_sl | exact k_st
  | exact k_ll | exact k_lb | exact k_li | exact k_ls | exact k_lt
  | exact k_tt | exact k_tb | exact k_ti | exact k_ts | exact k_tl
  | exact k_nn | exact k_ni | exact k_ns | exact k_nl | exact k_nt)
local macro_rules | `(tactic| walk_at "s1") => `(tactic| first
  | with_reducible refine w_seq ?_
  | with_reducible refine w_set ?_
  | with_reducible refine w_op ?_
  | ((with_reducible refine' w_var ?h1 ?_); (case h1 => rfl))
  | with_reducible refine w_c ?_
  | with_reducible refine w_cb ?_
  | with_reducible refine w_cons ?_
  | with_reducible refine w_nil ?_
  | with_reducible refine w_I0 ?_
  | ((with_reducible refine' w_I ?c1 ?_); case c1 => walk_at "cond")
  | with_reducible refine w_ret ?_
  | with_reducible refine w_next ?_
  | with_reducible refine w_ifS ?_
  | with_reducible refine w_test ?_
  | with_reducible refine w_tB ?_
  | with_reducible refine w_k ?_
  | with_reducible refine w_eqI ?_
  | with_reducible refine w_neI ?_
  | with_reducible refine w_eqS ?_
  | with_reducible refine w_neS ?_
  | with_reducible refine w_and ?_
  | with_reducible refine w_or ?_
  | with_reducible refine w_not ?_
  | with_reducible refine w_andV ?_
  | with_reducible refine w_orV ?_
  | with_reducible refine w_notV ?_
  | with_reducible refine w_ifE ?_
  | with_reducible refine w_true ?_
  | with_reducible refine w_false ?_
  | with_reducible refine w_ntrue ?_
  | with_reducible refine w_nfalse ?_
  | with_reducible refine w_call ?_
  | with_reducible refine c_int ?_
  | with_reducible refine c_abs ?_
  | with_reducible refine c_max ?_
  | with_reducible refine c_min ?_
  | with_reducible refine w_drop ?_
  | with_reducible refine w_sfld ?_
  | with_reducible refine w_meth ?_
  | with_reducible refine w_make ?_
  | with_reducible refine w_prop ?_
  | with_reducible refine w_callK ?_
  | with_reducible refine w_callN ?_
  | with_reducible refine w_star ?_
  | with_reducible refine w_gcons ?_
  | with_reducible refine w_gname ?_
  | with_reducible refine w_gnil ?_
  | with_reducible refine w_retN ?_
  | with_reducible refine w_tup ?_
  | with_reducible refine w_lst ?_
  | with_reducible refine w_fld ?_
  | with_reducible refine w_bm ?_
  | with_reducible refine w_bm0 ?_
  | with_reducible refine w_forL ?_
  | with_reducible refine w_forT ?_
  | with_reducible refine w_forS ?_
  | with_reducible refine w_forR ?_
  | with_reducible refine w_lcR ?_
  | with_reducible refine w_lcL ?_
  | with_reducible refine w_lcT ?_
  | with_reducible refine w_isN ?_
  | with_reducible refine w_notN ?_
  | with_reducible refine w_asg ?_
  | with_reducible refine w_gsub ?_
  | ((with_reducible refine' w_aug ?h1 ?_); (case h1 => rfl))
  | with_reducible refine w_augS ?_
  | with_reducible refine w_ipI ?_
  | with_reducible refine w_un ?_
  | with_reducible refine w_U ?_
  | ((with_reducible refine' w_iteF ?f1 ?_); case f1 => (first | (intro h; cases h; done) | decide))
  | ((with_reducible refine' w_iteT ?f1 ?_); case f1 => rfl)
  | ((with_reducible refine' w_iteNF ?f1 ?_); case f1 => rfl)
  | ((with_reducible refine' w_iteNT ?f1 ?_); case f1 => (first | (intro h; cases h; done) | decide))
  | ((with_reducible refine' c_isi ?t1 ?k1 ?_); (case t1 => walk_at "ty"); (case k1 => walk_at "kit"))
  | ((with_reducible refine' w_eq ?e1 ?_); case e1 => rfl)
  | ((with_reducible refine' w_ne ?e1 ?_); case e1 => rfl)
  | walk_at "u1")
local macro_rules | `(tactic| walk_at "s") => `(tactic| repeat walk_at "s1")
local macro_rules | `(tactic| walk_at "mem") => `(tactic| first | with_reducible exact List.mem_cons_self .. | ((with_reducible refine' List.mem_cons_of_mem _ ?q); (case q => walk_at "mem")) | assumption | ((with_reducible refine' List.mem_append_right _ ?q); (case q => walk_at "mem")) | (exact List.mem_append_left _ (by assumption)))
local macro_rules | `(tactic| walk_at "pk") => `(tactic| first | with_reducible exact Pk.here | ((with_reducible refine' Pk.there ?q); (case q => walk_at "pk")) | ((with_reducible refine' Pk.app ?q); (case q => walk_at "pk")))
local macro_rules | `(tactic| walk_at "pkb") => `(tactic| first | with_reducible exact PkB.here | ((with_reducible refine' PkB.there ?q); (case q => walk_at "pkb")) | ((with_reducible refine' PkB.app ?q); (case q => walk_at "pkb")))
local macro_rules | `(tactic| walk_at "spl") => `(tactic| first | with_reducible exact Spl.nil | ((with_reducible refine' Spl.cons ?h ?t); (case h => walk_at "pk"); (case t => walk_at "spl")) | ((with_reducible refine' Spl.blk ?h ?t); (case h => walk_at "pkb"); (case t => walk_at "spl")))
local macro_rules | `(tactic| walk_at "sbx") => `(tactic| first | with_reducible exact Sb.refl | with_reducible exact Sb.nil | with_reducible exact Sb.left | ((with_reducible refine' Sb.cons ?h ?t); (case h => walk_at "pk"); (case t => walk_at "sbx")) | ((with_reducible refine' Sb.blk ?h ?t); (case h => walk_at "pkb"); (case t => walk_at "sbx")) | ((with_reducible refine' Sb.drop ?q); (case q => walk_at "sbx")) | ((with_reducible refine' Sb.right ?q); (case q => walk_at "sbx")))
local macro_rules | `(tactic| walk_at "hd") => `(tactic| first | assumption | exact Hd.sb (by assumption) (by walk_at "sbx"))
local macro_rules | `(tactic| walk_at "sq") => `(tactic| first
  | assumption
  | exact Hd.sqL (by assumption) (by walk_at "mem")
  | exact Hd.sqT (by assumption) (by walk_at "mem")
  | exact Hd.sqF (by assumption) (by walk_at "mem")
  | (refine .inl ?_; walk_at "sq")
  | (refine .inr ?_; walk_at "sq"))
local macro_rules | `(tactic| walk_at "at") => `(tactic| first | rfl | assumption | exact atI_nat (by assumption))
local macro_rules | `(tactic| walk_at "dn1") => `(tactic| first
  | exact Dn.int | exact Dn.str | exact Dn.non | exact Dn.bl | assumption
  | ((refine' Dn.tp ?a1 ?m1 ?l1 ?p1); (case a1 => assumption); (case m1 => walk_at "mem"); (case l1 => (simp only [List.length_cons, List.length_nil]; omega)); (case p1 => walk_at "dns"))
  | ((refine' Dn.lt ?a1 ?m1 ?l1 ?p1); (case a1 => assumption); (case m1 => walk_at "mem"); (case l1 => (simp only [List.length_cons, List.length_nil]; omega)); (case p1 => walk_at "dns")))
local macro_rules | `(tactic| walk_at "dns") => `(tactic| first | exact Paired.nil | exact Dn.ints | ((refine' Paired.cons ?a1 ?b1); (case a1 => walk_at "dn1"); (case b1 => walk_at "dns")))
local macro_rules | `(tactic| walk_at "g1") => `(tactic| first
  | ((with_reducible refine' g_ixI ?h1 ?h2 ?h3 ?_); (case h1 => assumption); (case h2 => walk_at "mem"); (case h3 => omega); intro z hz)
  | ((with_reducible refine' g_ixIT ?h1 ?h2 ?h3 ?_); (case h1 => assumption); (case h2 => walk_at "mem"); (case h3 => omega); intro z hz)
  | ((with_reducible refine' g_setI ?h1 ?h2 ?h3 ?_); (case h1 => assumption); (case h2 => walk_at "pk"); (case h3 => omega); intro H2 hh2)
  | ((with_reducible refine' w_ixL ?h1 ?h2 ?_); (case h1 => walk_at "sq"); (case h2 => walk_at "at"))
  | ((with_reducible refine' w_ixT ?h1 ?h2 ?_); (case h1 => walk_at "sq"); (case h2 => walk_at "at"))
  | ((with_reducible refine' w_ixAny ?h1 ?h2 ?_); (case h1 => walk_at "sq"); (case h2 => walk_at "at"))
  | ((with_reducible refine' c_lenA ?h1 ?_); (case h1 => walk_at "sq"))
  | ((with_reducible refine' c_isi ?t1 ?k1 ?_); (case t1 => first | exact ty_T (by walk_at "sq") | exact ty_L (by walk_at "sq")); (case k1 => walk_at "kit"))
  | ((with_reducible refine' g_lst ?h1 ?h2 ?_); (case h1 => assumption); (case h2 => walk_at "sz"); intro p H2 hh2)
  | ((with_reducible refine' g_tup ?h1 ?h2 ?_); (case h1 => assumption); (case h2 => walk_at "sz"); intro p H2 hh2)
  | ((with_reducible refine' g_dict ?h1 ?_); (case h1 => assumption); intro p H2 hh2)
  | ((with_reducible refine' g_listL ?h1 ?h2 ?_); (case h1 => assumption); (case h2 => walk_at "sq"); intro p H2 hh2)
  | ((with_reducible refine' g_listT ?h1 ?h2 ?_); (case h1 => assumption); (case h2 => walk_at "sq"); intro p H2 hh2)
  | ((with_reducible refine' g_tupL ?h1 ?h2 ?_); (case h1 => assumption); (case h2 => walk_at "sq"); intro p H2 hh2)
  | ((with_reducible refine' g_set ?h1 ?h2 ?h3 ?_); (case h1 => assumption); (case h2 => walk_at "pk"); (case h3 => first | rfl | assumption | exact Evl.ixN_nat (by first | omega | (simp only [List.length_cons, List.length_nil]; omega))); intro H2 hh2)
  | ((with_reducible refine' g_kbm ?h1 ?h2 ?_); (case h1 => assumption); (case h2 => walk_at "mem"))
  | ((with_reducible refine' g_kbm0 ?h1 ?h2 ?_); (case h1 => assumption); (case h2 => walk_at "mem"))
  | ((with_reducible refine' g_app ?h1 ?h2 ?h3 ?_); (case h1 => assumption); (case h2 => walk_at "pk"); (case h3 => walk_at "sz"); intro H2 hh2)
  | ((with_reducible refine' g_kapp ?h1 ?h2 ?h3 ?_); (case h1 => assumption); (case h2 => walk_at "pk"); (case h3 => walk_at "sz"); intro H2 hh2)
  | ((with_reducible refine' g_fld ?h1 ?h2 ?h3 ?h4 ?h5 ?_); (case h1 => assumption); (case h2 => walk_at "mem"); (case h3 => assumption); (case h4 => assumption); (case h5 => rfl))
  | ((with_reducible refine' g_sfld ?h1 ?h2 ?h3 ?h4 ?h5 ?_); (case h1 => assumption); (case h2 => walk_at "pk"); (case h3 => assumption); (case h4 => assumption); (case h5 => decide); intro H2 hh2)
  | ((with_reducible refine' g_meth ?h1 ?h2 ?h3 ?_); (case h1 => assumption); (case h2 => walk_at "mem"); (case h3 => rfl))
  | ((with_reducible refine' g_prop ?h1 ?h2 ?_); (case h1 => assumption); (case h2 => walk_at "mem"))
  | ((with_reducible refine' g_make ?h1 ?_); (case h1 => assumption); intro x H2 hh2)
  | ((with_reducible refine' g_cat ?h1 ?h2 ?h3 ?h4 ?_); (case h1 => assumption); (case h2 => walk_at "mem"); (case h3 => walk_at "mem"); (case h4 => walk_at "sz"); intro p H2 hh2)
  | ((with_reducible refine' g_inT ?h1 ?h2 ?h3 ?h4 ?h5 ?_); (case h1 => assumption); (case h2 => walk_at "mem"); (case h3 => rfl); (case h4 => rfl); (case h5 => rfl)))
local macro_rules | `(tactic| walk_at "gs") => `(tactic| repeat first | walk_at "s1" | walk_at "g1")
local macro_rules | `(tactic| walk_at "ite") => `(tactic| first
  | ((with_reducible refine' w_iteT ?h1 ?_); (case h1 => omega))
  | ((with_reducible refine' w_iteF ?h1 ?_); (case h1 => omega))
  | (with_reducible refine w_ite ?_ ?_ <;> intro hq)
  | ((with_reducible refine' w_iteNT ?h1 ?_); (case h1 => omega))
  | ((with_reducible refine' w_iteNF ?h1 ?_); (case h1 => omega))
  | (with_reducible refine w_iteN ?_ ?_ <;> intro hq))
local macro_rules | `(tactic| walk_at "go") => `(tactic| repeat' first | walk_at "s1" | walk_at "g1" | walk_at "ite")
section
variable {P : Program} {w : World} {K : PySem.W.Frag} {mg : Str → Option Value} {base : Heap} {aREG aOPS : Addr}
/-! ### the draws, over the ledger -/
def stoC (st c : Addr) : Cell := (st, fun o => ∃ i b t z : Int, o = .lst [.ref c, .int i, .int b, .int t, .int z] ∧ 0 ≤ i ∧ 0 ≤ b ∧ 0 ≤ z ∧ z < 2147483647)
def scrC (c : Addr) : Cell := (c, fun o => ∃ ns : List Int, o = .lst (ns.map V.int))
section
variable {st c : Addr} {H H' : Hp} {L R : List Cell} {Q : VK} {E : XK}
theorem Hd.sto (h : Hd H L) (m1 : stoC st c ∈ L) (m2 : scrC c ∈ L) : StoreAt H st c := by
  obtain ⟨o, e, i, b, t, z, q, r⟩ := h.at_ _ m1
  obtain ⟨u, e2, ns, q2⟩ := h.at_ _ m2
  subst q; subst q2
  exact ⟨ns, i, b, t, z, e, e2, r⟩
theorem Hd.ofSto (S : StoreAt H st c) : Hd H [stoC st c, scrC c] := by
  have ne := S.ne
  obtain ⟨ns, i, b, t, z, e1, e2, r⟩ := S
  exact Hd.two (c := stoC st c) (d := scrC c) e1 ⟨i, b, t, z, rfl, r⟩ e2 ⟨ns, rfl⟩ (Ne.symm ne)
theorem Hd.st0 (h : Hd H (stoC st c :: scrC c :: R)) : StoreAt H st c := Hd.sto h (List.mem_cons_self ..) (List.mem_cons_of_mem _ (List.mem_cons_self ..))
theorem Hd.drawn (h : Hd H (stoC st c :: scrC c :: R)) (S : StoreAt H' st c) (u : Upt [st] H H') : Hd H' (stoC st c :: scrC c :: R) :=
  Hd.put (A := [stoC st c, scrC c]) (B := [stoC st c, scrC c]) h u (fun a ha => by rw [List.mem_singleton.mp ha]; exact List.mem_cons_self ..) (Hd.ofSto S) fun c hc => .inl (List.mem_map_of_mem hc)
theorem g_store {a : Addr} {ns : List Int} {z : Int} (hh : Hd H L) (h : SqL K H a (ns.map V.int)) (hl : ns.length ≤ 63) (h0 : 0 ≤ z) (h1 : z ≤ 200000) (q : ∀ st c H', Hd H' (stoC st c :: scrC c :: L) → Q (.ref st) H') : sp_store K [.ref a, .int z] H Q E :=
  u_store h hl h0 h1 fun st c H' n1 n2 S u => q st c H' (Hd.put (A := []) (B := [stoC st c, scrC c]) (S := []) hh u (by simp) (Hd.ofSto S) fun x hx => by
    rcases List.mem_cons.mp hx with rfl | hx
    · exact .inr n1
    · rw [List.mem_singleton.mp hx]; exact .inr n2)
theorem g_take {m : Int} (hh : Hd H L) (s : Spl L [stoC st c, scrC c] R) (hm : m ≤ 4611686018427387904) (q : ∀ (k : Nat) H', ((k : Int) < m ∨ k = 0) → Hd H' (stoC st c :: scrC c :: R) → Q (.int k) H') : sp_take [.ref st, .int m] H Q E :=
  have h := hh.spl s
  u_take (Hd.st0 h) hm fun k H' hk S u => by
    obtain ⟨j, rfl⟩ := Int.eq_ofNat_of_zero_le hk.1
    exact q j H' (by have := hk.2; omega) (Hd.drawn h S u)
theorem g_take1 {m : Int} (hh : Hd H L) (s : Spl L [stoC st c, scrC c] R) (hm : 0 < m) (hm2 : m ≤ 4611686018427387904) (q : ∀ (k : Nat) H', (k : Int) < m → Hd H' (stoC st c :: scrC c :: R) → Q (.int k) H') : sp_take [.ref st, .int m] H Q E :=
  g_take hh s hm2 fun k H' h0 hh' => q k H' (by omega) hh'
theorem g_pick {r : Addr} {xs : List V} (hh : Hd H L) (s : Spl L [stoC st c, scrC c] R) (m : lstC r xs ∈ R) (h0 : 0 < xs.length) (h1 : xs.length ≤ 100000) (q : ∀ v H', v ∈ xs → Hd H' (stoC st c :: scrC c :: R) → Q v H') : sp_pick K [.ref st, .ref r] H Q E :=
  have h := hh.spl s
  u_pick (Hd.st0 h) (h.sqL (List.mem_cons_of_mem _ (List.mem_cons_of_mem _ m))) (h.ne (c := stoC st c) (d := lstC r xs) (List.mem_cons_of_mem _ m)) h0 h1 fun v H' hv S u => q v H' hv (Hd.drawn h S u)
theorem g_between {lo hi : Int} (hh : Hd H L) (s : Spl L [stoC st c, scrC c] R) (h0 : lo ≤ hi) (h1 : hi - lo < 4611686018427387904) (q : ∀ k H', lo ≤ k → k ≤ hi → Hd H' (stoC st c :: scrC c :: R) → Q (.int k) H') : sp_between [.ref st, .int lo, .int hi] H Q E :=
  have h := hh.spl s
  u_between (Hd.st0 h) h0 h1 fun k H' hk S u => q k H' hk.1 hk.2 (Hd.drawn h S u)
theorem g_betweenN {lo hi : Int} (hh : Hd H L) (s : Spl L [stoC st c, scrC c] R) (hn : 0 ≤ lo) (h0 : lo ≤ hi) (h1 : hi - lo < 4611686018427387904) (q : ∀ (k : Nat) H', lo ≤ k → (k : Int) ≤ hi → Hd H' (stoC st c :: scrC c :: R) → Q (.int k) H') : sp_between [.ref st, .int lo, .int hi] H Q E :=
  g_between hh s h0 h1 fun k H' a b hh' => by
    obtain ⟨j, rfl⟩ := Int.eq_ofNat_of_zero_le (show 0 ≤ k by omega)
    exact q j H' a b hh'
theorem g_size {m : Int} (hh : Hd H L) (s : Spl L [stoC st c, scrC c] R) (h0 : 0 ≤ m) (h1 : m ≤ 1000000) (q : ∀ (k : Nat) H', (k : Int) ≤ m → Hd H' (stoC st c :: scrC c :: R) → Q (.int k) H') : sp_size [.ref st, .int m] H Q E :=
  have h := hh.spl s
  u_size (Hd.st0 h) h0 h1 fun k H' hk S u => by
    obtain ⟨j, rfl⟩ := Int.eq_ofNat_of_zero_le hk.1
    exact q j H' hk.2 (Hd.drawn h S u)
theorem g_word (hh : Hd H L) (s : Spl L [stoC st c, scrC c] R) (q : ∀ (k : Nat) H', k ≤ 65535 → Hd H' (stoC st c :: scrC c :: R) → Q (.int k) H') : sp_word [.ref st] H Q E :=
  have h := hh.spl s
  u_word (Hd.st0 h) fun k H' hk S u => by
    obtain ⟨j, rfl⟩ := Int.eq_ofNat_of_zero_le hk.1
    exact q j H' (by omega) (Hd.drawn h S u)
theorem g_alike {n : Nat} {v1 v2 : V} {d : PyData} (h1 : Dn K [] H n v1 d) (h2 : Dn K [] H n v2 d) (q : Q (.bl true) H) : sp_alike K (n + 1) [v1, v2] H Q E := ⟨v1, v2, d, rfl, ⟨h1, h2⟩, q⟩
end
theorem rep_ints {k : Int} : ∀ n : Nat, (List.replicate n [V.int k]).flatten = (List.replicate n k).map V.int
  | 0 => rfl
  | n + 1 => by rw [List.replicate_succ, List.flatten_cons, rep_ints n, List.replicate_succ, List.map_cons]; rfl
end
end K05
set_option Elab.async false
set_option linter.all false
set_option maxRecDepth 100000
set_option maxHeartbeats 4000000
namespace K05
open PySem PySem.Spec PyProof.Rows L2 Wk
local macro_rules | `(tactic| walk_at "u1") => `(tactic| fail "no more")
local macro_rules | `(tactic| walk_at "pos") => `(tactic| first | assumption | omega | decide | (simp only [Int.ofNat_eq_natCast] at *; omega))
local macro_rules | `(tactic| walk_at "sz") => `(tactic| first
  | (simp only [List.length_cons, List.length_nil]; decide)
  | exact Evl.sz_of (by omega)
  | exact Evl.sz_lt (by omega)
  | exact Evl.sz_of (by simp only [List.length_map, List.length_append, List.length_cons, List.length_nil, List.length_replicate]; omega)
  | exact Evl.sz_lt (by simp only [List.length_map, List.length_append, List.length_cons, List.length_nil, List.length_replicate]; omega))
local macro_rules | `(tactic| walk_at "cond") => `(tactic| first
  | exact Or.inr ⟨by decide, by decide⟩
  | (show (0 : Int) < _; first | decide | assumption | omega)
  | exact Or.inl ⟨by omega, by omega⟩
  | exact Or.inr ⟨by omega, by omega⟩
  | exact ⟨by decide, by decide, by decide⟩
  | exact log2_lt (by omega) (by omega)
  | exact ⟨by omega, by omega⟩)
local macro_rules | `(tactic| walk_at "ty") => `(tactic| first
  | exact ty_int | exact ty_bl | exact ty_str | exact ty_non
  | exact ty_L (by assumption) | exact ty_T (by assumption)
  | exact ty_L (SqL.of (by assumption)) | exact ty_T (SqT.of (by assumption)))
local macro_rules | `(tactic| walk_at "kit") => `(tactic| first
  | exact k_ii | exact k_ib | exact k_is | exact k_il | exact k_it
  | exact k_bb | exact k_bi | exact k_bs | exact k_bl | exact k_bt
  | exact k_ss | exact k_sb | exact k_si | exact k_sl | exact k_st
  | exact k_ll | exact k_lb | exact k_li | exact k_ls | exact k_lt
  | exact k_tt | exact k_tb | exact k_ti | exact k_ts | exact k_tl
  | exact k_nn | exact k_ni | exact k_ns | exact k_nl | exact k_nt)
local macro_rules | `(tactic| walk_at "s1") => `(tactic| first
  | with_reducible refine w_seq ?_
  | with_reducible refine w_set ?_
  | with_reducible refine w_op ?_
  | ((with_reducible refine' w_var ?h1 ?_); (case h1 => rfl))
  | with_reducible refine w_c ?_
  | with_reducible refine w_cb ?_
  | with_reducible refine w_cons ?_
  | with_reducible refine w_nil ?_
  | with_reducible refine w_I0 ?_
  | ((with_reducible refine' w_I ?c1 ?_); case c1 => walk_at "cond")
  | with_reducible refine w_ret ?_
  | with_reducible refine w_next ?_
  | with_reducible refine w_ifS ?_
  | with_reducible refine w_test ?_
  | with_reducible refine w_tB ?_
  | with_reducible refine w_k ?_
  | with_reducible refine w_eqI ?_
  | with_reducible refine w_neI ?_
  | with_reducible refine w_eqS ?_
  | with_reducible refine w_neS ?_
  | with_reducible refine w_and ?_
  | with_reducible refine w_or ?_
  | with_reducible refine w_not ?_
  | with_reducible refine w_andV ?_
  | with_reducible refine w_orV ?_
  | with_reducible refine w_notV ?_
  | with_reducible refine w_ifE ?_
  | with_reducible refine w_true ?_
  | with_reducible refine w_false ?_
  | with_reducible refine w_ntrue ?_
  | with_reducible refine w_nfalse ?_
  | with_reducible refine w_call ?_
  | with_reducible refine c_int ?_
  | with_reducible refine c_abs ?_
  | with_reducible refine c_max ?_
  | with_reducible refine c_min ?_
  | with_reducible refine w_drop ?_
  | with_reducible refine w_sfld ?_
  | with_reducible refine w_meth ?_
  | with_reducible refine w_make ?_
  | with_reducible refine w_prop ?_
  | with_reducible refine w_callK ?_
  | with_reducible refine w_callN ?_
  | with_reducible refine w_star ?_
  | with_reducible refine w_gcons ?_
  | with_reducible refine w_gname ?_
  | with_reducible refine w_gnil ?_
  | with_reducible refine w_retN ?_
  | with_reducible refine w_tup ?_
  | with_reducible refine w_lst ?_
  | with_reducible refine w_fld ?_
  | with_reducible refine w_bm ?_
  | with_reducible refine w_bm0 ?_
  | with_reducible refine w_forL ?_
  | with_reducible refine w_forT ?_
  | with_reducible refine w_forS ?_
  | with_reducible refine w_forR ?_
  | with_reducible refine w_lcR ?_
  | with_reducible refine w_lcL ?_
  | with_reducible refine w_lcT ?_
  | with_reducible refine w_isN ?_
  | with_reducible refine w_notN ?_
  | with_reducible refine w_asg ?_
  | with_reducible refine w_gsub ?_
  | ((with_reducible refine' w_aug ?h1 ?_); (case h1 => rfl))
  | with_reducible refine w_augS ?_
  | with_reducible refine w_ipI ?_
  | with_reducible refine w_un ?_
  | with_reducible refine w_U ?_
  | ((with_reducible refine' w_iteF ?f1 ?_); case f1 => (first | (intro h; cases h; done) | decide))
  | ((with_reducible refine' w_iteT ?f1 ?_); case f1 => rfl)
  | ((with_reducible refine' w_iteNF ?f1 ?_); case f1 => rfl)
  | ((with_reducible refine' w_iteNT ?f1 ?_); case f1 => (first | (intro h; cases h; done) | decide))
  | ((with_reducible refine' c_isi ?t1 ?k1 ?_); (case t1 => walk_at "ty"); (case k1 => walk_at "kit"))
  | ((with_reducible refine' w_eq ?e1 ?_); case e1 => rfl)
  | ((with_reducible refine' w_ne ?e1 ?_); case e1 => rfl)
  | walk_at "u1")
local macro_rules | `(tactic| walk_at "s") => `(tactic| repeat walk_at "s1")
local macro_rules | `(tactic| walk_at "mem") => `(tactic| first | with_reducible exact List.mem_cons_self .. | ((with_reducible refine' List.mem_cons_of_mem _ ?q); (case q => walk_at "mem")) | assumption | ((with_reducible refine' List.mem_append_right _ ?q); (case q => walk_at "mem")) | (exact List.mem_append_left _ (by assumption)))
local macro_rules | `(tactic| walk_at "pk") => `(tactic| first | with_reducible exact Pk.here | ((with_reducible refine' Pk.there ?q); (case q => walk_at "pk")) | ((with_reducible refine' Pk.app ?q); (case q => walk_at "pk")))
local macro_rules | `(tactic| walk_at "pkb") => `(tactic| first | with_reducible exact PkB.here | ((with_reducible refine' PkB.there ?q); (case q => walk_at "pkb")) | ((with_reducible refine' PkB.app ?q); (case q => walk_at "pkb")))
local macro_rules | `(tactic| walk_at "spl") => `(tactic| first | with_reducible exact Spl.nil | ((with_reducible refine' Spl.cons ?h ?t); (case h => walk_at "pk"); (case t => walk_at "spl")) | ((with_reducible refine' Spl.blk ?h ?t); (case h => walk_at "pkb"); (case t => walk_at "spl")))
local macro_rules | `(tactic| walk_at "sbx") => `(tactic| first | with_reducible exact Sb.refl | with_reducible exact Sb.nil | with_reducible exact Sb.left | ((with_reducible refine' Sb.cons ?h ?t); (case h => walk_at "pk"); (case t => walk_at "sbx")) | ((with_reducible refine' Sb.blk ?h ?t); (case h => walk_at "pkb"); (case t => walk_at "sbx")) | ((with_reducible refine' Sb.drop ?q); (case q => walk_at "sbx")) | ((with_reducible refine' Sb.right ?q); (case q => walk_at "sbx")))
local macro_rules | `(tactic| walk_at "hd") => `(tactic| first | assumption | exact Hd.sb (by assumption) (by walk_at "sbx"))
local macro_rules | `(tactic| walk_at "sq") => `(tactic| first
  | assumption
  | exact Hd.sqL (by assumption) (by walk_at "mem")
  | exact Hd.sqT (by assumption) (by walk_at "mem")
  | exact Hd.sqF (by assumption) (by walk_at "mem")
  | (refine .inl ?_; walk_at "sq")
  | (refine .inr ?_; walk_at "sq"))
local macro_rules | `(tactic| walk_at "at") => `(tactic| first | rfl | assumption | exact atI_nat (by assumption))
local macro_rules | `(tactic| walk_at "dn1") => `(tactic| first
  | exact Dn.int | exact Dn.str | exact Dn.non | exact Dn.bl | assumption
  | ((refine' Dn.tp ?a1 ?m1 ?l1 ?p1); (case a1 => assumption); (case m1 => walk_at "mem"); (case l1 => (simp only [List.length_cons, List.length_nil]; omega)); (case p1 => walk_at "dns"))
  | ((refine' Dn.lt ?a1 ?m1 ?l1 ?p1); (case a1 => assumption); (case m1 => walk_at "mem"); (case l1 => (simp only [List.length_cons, List.length_nil]; omega)); (case p1 => walk_at "dns")))
local macro_rules | `(tactic| walk_at "dns") => `(tactic| first | exact Paired.nil | exact Dn.ints | ((refine' Paired.cons ?a1 ?b1); (case a1 => walk_at "dn1"); (case b1 => walk_at "dns")))
local macro_rules | `(tactic| walk_at "g1") => `(tactic| first
  | ((with_reducible refine' g_ixI ?h1 ?h2 ?h3 ?_); (case h1 => assumption); (case h2 => walk_at "mem"); (case h3 => omega); intro z hz)
  | ((with_reducible refine' g_ixIT ?h1 ?h2 ?h3 ?_); (case h1 => assumption); (case h2 => walk_at "mem"); (case h3 => omega); intro z hz)
  | ((with_reducible refine' g_setI ?h1 ?h2 ?h3 ?_); (case h1 => assumption); (case h2 => walk_at "pk"); (case h3 => omega); intro H2 hh2)
  | ((with_reducible refine' w_ixL ?h1 ?h2 ?_); (case h1 => walk_at "sq"); (case h2 => walk_at "at"))
  | ((with_reducible refine' w_ixT ?h1 ?h2 ?_); (case h1 => walk_at "sq"); (case h2 => walk_at "at"))
  | ((with_reducible refine' w_ixAny ?h1 ?h2 ?_); (case h1 => walk_at "sq"); (case h2 => walk_at "at"))
  | ((with_reducible refine' c_lenA ?h1 ?_); (case h1 => walk_at "sq"))
  | ((with_reducible refine' c_isi ?t1 ?k1 ?_); (case t1 => first | exact ty_T (by walk_at "sq") | exact ty_L (by walk_at "sq")); (case k1 => walk_at "kit"))
  | ((with_reducible refine' g_lst ?h1 ?h2 ?_); (case h1 => assumption); (case h2 => walk_at "sz"); intro p H2 hh2)
  | ((with_reducible refine' g_tup ?h1 ?h2 ?_); (case h1 => assumption); (case h2 => walk_at "sz"); intro p H2 hh2)
  | ((with_reducible refine' g_dict ?h1 ?_); (case h1 => assumption); intro p H2 hh2)
  | ((with_reducible refine' g_listL ?h1 ?h2 ?_); (case h1 => assumption); (case h2 => walk_at "sq"); intro p H2 hh2)
  | ((with_reducible refine' g_listT ?h1 ?h2 ?_); (case h1 => assumption); (case h2 => walk_at "sq"); intro p H2 hh2)
  | ((with_reducible refine' g_tupL ?h1 ?h2 ?_); (case h1 => assumption); (case h2 => walk_at "sq"); intro p H2 hh2)
  | ((with_reducible refine' g_set ?h1 ?h2 ?h3 ?_); (case h1 => assumption); (case h2 => walk_at "pk"); (case h3 => first | rfl | assumption | exact Evl.ixN_nat (by first | omega | (simp only [List.length_cons, List.length_nil]; omega))); intro H2 hh2)
  | ((with_reducible refine' g_kbm ?h1 ?h2 ?_); (case h1 => assumption); (case h2 => walk_at "mem"))
  | ((with_reducible refine' g_kbm0 ?h1 ?h2 ?_); (case h1 => assumption); (case h2 => walk_at "mem"))
  | ((with_reducible refine' g_app ?h1 ?h2 ?h3 ?_); (case h1 => assumption); (case h2 => walk_at "pk"); (case h3 => walk_at "sz"); intro H2 hh2)
  | ((with_reducible refine' g_kapp ?h1 ?h2 ?h3 ?_); (case h1 => assumption); (case h2 => walk_at "pk"); (case h3 => walk_at "sz"); intro H2 hh2)
  | ((with_reducible refine' g_fld ?h1 ?h2 ?h3 ?h4 ?h5 ?_); (case h1 => assumption); (case h2 => walk_at "mem"); (case h3 => assumption); (case h4 => assumption); (case h5 => rfl))
  | ((with_reducible refine' g_sfld ?h1 ?h2 ?h3 ?h4 ?h5 ?_); (case h1 => assumption); (case h2 => walk_at "pk"); (case h3 => assumption); (case h4 => assumption); (case h5 => decide); intro H2 hh2)
  | ((with_reducible refine' g_meth ?h1 ?h2 ?h3 ?_); (case h1 => assumption); (case h2 => walk_at "mem"); (case h3 => rfl))
  | ((with_reducible refine' g_prop ?h1 ?h2 ?_); (case h1 => assumption); (case h2 => walk_at "mem"))
  | ((with_reducible refine' g_make ?h1 ?_); (case h1 => assumption); intro x H2 hh2)
  | ((with_reducible refine' g_cat ?h1 ?h2 ?h3 ?h4 ?_); (case h1 => assumption); (case h2 => walk_at "mem"); (case h3 => walk_at "mem"); (case h4 => walk_at "sz"); intro p H2 hh2)
  | ((with_reducible refine' g_inT ?h1 ?h2 ?h3 ?h4 ?h5 ?_); (case h1 => assumption); (case h2 => walk_at "mem"); (case h3 => rfl); (case h4 => rfl); (case h5 => rfl)))
local macro_rules | `(tactic| walk_at "gs") => `(tactic| repeat first | walk_at "s1" | walk_at "g1")
local macro_rules | `(tactic| walk_at "ite") => `(tactic| first
  | ((with_reducible refine' w_iteT ?h1 ?_); (case h1 => omega))
  | ((with_reducible refine' w_iteF ?h1 ?_); (case h1 => omega))
  | (with_reducible refine w_ite ?_ ?_ <;> intro hq)
  | ((with_reducible refine' w_iteNT ?h1 ?_); (case h1 => omega))
  | ((with_reducible refine' w_iteNF ?h1 ?_); (case h1 => omega))
  | (with_reducible refine w_iteN ?_ ?_ <;> intro hq))
local macro_rules | `(tactic| walk_at "go") => `(tactic| repeat' first | walk_at "s1" | walk_at "g1" | walk_at "ite")
local macro_rules | `(tactic| walk_at "g1") => `(tactic| first
  | ((with_reducible refine' g_take1 ?h1 ?h2 ?h3 ?h4 ?_); (case h1 => assumption); (case h2 => walk_at "spl"); (case h3 => omega); (case h4 => omega); intro k H2 hk1 hh2)
  | ((with_reducible refine' g_take ?h1 ?h2 ?h4 ?_); (case h1 => assumption); (case h2 => walk_at "spl"); (case h4 => omega); intro k H2 hk1 hh2)
  | ((with_reducible refine' g_betweenN ?h1 ?h2 ?h5 ?h3 ?h4 ?_); (case h1 => assumption); (case h2 => walk_at "spl"); (case h5 => omega); (case h3 => omega); (case h4 => omega); intro k H2 hk1 hk2 hh2)
  | ((with_reducible refine' g_between ?h1 ?h2 ?h3 ?h4 ?_); (case h1 => assumption); (case h2 => walk_at "spl"); (case h3 => omega); (case h4 => omega); intro k H2 hk1 hk2 hh2)
  | ((with_reducible refine' g_size ?h1 ?h2 ?h3 ?h4 ?_); (case h1 => assumption); (case h2 => walk_at "spl"); (case h3 => omega); (case h4 => omega); intro k H2 hk1 hh2)
  | ((with_reducible refine' g_word ?h1 ?h2 ?_); (case h1 => assumption); (case h2 => walk_at "spl"); intro k H2 hk1 hh2))
section
variable {P : Program} {w : World} {K : PySem.W.Frag} {mg : Str → Option Value} {base : Heap} {aREG aOPS : Addr}
/-! ### parts of lists -/
theorem cut_hi {xs : List V} {n : Nat} : cutV xs none (some (n : Int)) = xs.take n := by
  unfold cutV
  rw [show HT.sIx xs.length 0 none = 0 from rfl, List.drop_zero, Nat.sub_zero]
  have e : HT.sIx xs.length xs.length (some (n : Int)) = min n xs.length := by
    show (if (n : Int) < 0 then ((n : Int) + (xs.length : Int)).toNat else min ((n : Int)).toNat xs.length) = min n xs.length
    rw [if_neg (by omega), Int.toNat_natCast]
  rw [e]
  exact List.take_eq_take_min.symm
theorem cut_lo {xs : List V} {n : Nat} : cutV xs (some (n : Int)) none = xs.drop n := by
  unfold cutV
  have e : HT.sIx xs.length 0 (some (n : Int)) = min n xs.length := by
    show (if (n : Int) < 0 then ((n : Int) + (xs.length : Int)).toNat else min ((n : Int)).toNat xs.length) = min n xs.length
    rw [if_neg (by omega), Int.toNat_natCast]
  rw [e, show HT.sIx xs.length xs.length none = xs.length from rfl]
  by_cases h : n ≤ xs.length
  · rw [Nat.min_eq_left h, List.take_of_length_le (by rw [List.length_drop]; exact Nat.le_refl _)]
  · rw [Nat.min_eq_right (by omega), Nat.sub_self, List.take_zero, List.drop_eq_nil_of_le (by omega)]
section
variable {K : PySem.W.Frag} {σ : L2.St} {H : Hp} {Q : VK} {L : List Cell} {a : Addr} {xs : List V} {n : Nat} {r : V → Option Int → Option Int → Hp → VK → Prop} {te t : TE} {tl th : TO} {i : Int} {QO : Option Int → Hp → Prop} {QI : Int → Prop}
theorem w_sl (h : te σ H fun x H1 => tl σ H1 fun l H2 => th σ H2 fun u H3 => r x l u H3 Q) : tSl r te tl th σ H Q := h
theorem w_part (h : t σ H fun x H1 => ∃ i, x = .int i ∧ QO (some i) H1) : tPart t σ H QO := h
theorem w_noPart (h : QO none H) : tNoPart σ H QO := h
theorem w_exI (h : QI i) : ∃ j, V.int i = .int j ∧ QI j := ⟨i, rfl, h⟩
theorem g_slHi (hh : Hd H L) (h : SqL K H a xs) (q : ∀ p H2, Hd H2 (lstC p (xs.take n) :: L) → Q (.ref p) H2) : rSlL K (.ref a) none (some (n : Int)) H Q :=
  ⟨a, xs, rfl, h, fun p hp => q p _ (hh.newL (cut_hi (xs := xs) (n := n) ▸ New.of hp))⟩
theorem g_slLo (hh : Hd H L) (h : SqL K H a xs) (q : ∀ p H2, Hd H2 (lstC p (xs.drop n) :: L) → Q (.ref p) H2) : rSlL K (.ref a) (some (n : Int)) none H Q :=
  ⟨a, xs, rfl, h, fun p hp => q p _ (hh.newL (cut_lo (xs := xs) (n := n) ▸ New.of hp))⟩
end
end
end K05
set_option Elab.async false
set_option linter.all false
set_option maxRecDepth 100000
set_option maxHeartbeats 4000000
namespace K05
open PySem PySem.Spec PyProof.Rows L2 Wk
local macro_rules | `(tactic| walk_at "u1") => `(tactic| fail "no more")
local macro_rules | `(tactic| walk_at "pos") => `(tactic| first | assumption | omega | decide | (simp only [Int.ofNat_eq_natCast] at *; omega))
local macro_rules | `(tactic| walk_at "sz") => `(tactic| first
  | (simp only [List.length_cons, List.length_nil]; decide)
  | exact Evl.sz_of (by omega)
  | exact Evl.sz_lt (by omega)
  | exact Evl.sz_of (by simp only [List.length_map, List.length_append, List.length_cons, List.length_nil, List.length_replicate]; omega)
  | exact Evl.sz_lt (by simp only [List.length_map, List.length_append, List.length_cons, List.length_nil, List.length_replicate]; omega))
local macro_rules | `(tactic| walk_at "cond") => `(tactic| first
  | exact Or.inr ⟨by decide, by decide⟩
  | (show (0 : Int) < _; first | decide | assumption | omega)
  | exact Or.inl ⟨by omega, by omega⟩
  | exact Or.inr ⟨by omega, by omega⟩
  | exact ⟨by decide, by decide, by decide⟩
  | exact log2_lt (by omega) (by omega)
  | exact ⟨by omega, by omega⟩)
local macro_rules | `(tactic| walk_at "ty") => `(tactic| first
  | exact ty_int | exact ty_bl | exact ty_str | exact ty_non
  | exact ty_L (by assumption) | exact ty_T (by assumption)
  | exact ty_L (SqL.of (by assumption)) | exact ty_T (SqT.of (by assumption)))
local macro_rules | `(tactic| walk_at "kit") => `(tactic| first
  | exact k_ii | exact k_ib | exact k_is | exact k_il | exact k_it
  | exact k_bb | exact k_bi | exact k_bs | exact k_bl | exact k_bt
  | exact k_ss | exact k_sb | exact k_si | exact k_sl | exact k_st
  | exact k_ll | exact k_lb | exact k_li | exact k_ls | exact k_lt
  | exact k_tt | exact k_tb | exact k_ti | exact k_ts | exact k_tl
  | exact k_nn | exact k_ni | exact k_ns | exact k_nl | exact k_nt)
local macro_rules | `(tactic| walk_at "s1") => `(tactic| first
  | with_reducible refine w_seq ?_
  | with_reducible refine w_set ?_
  | with_reducible refine w_op ?_
  | ((with_reducible refine' w_var ?h1 ?_); (case h1 => rfl))
  | with_reducible refine w_c ?_
  | with_reducible refine w_cb ?_
  | with_reducible refine w_cons ?_
  | with_reducible refine w_nil ?_
  | with_reducible refine w_I0 ?_
  | ((with_reducible refine' w_I ?c1 ?_); case c1 => walk_at "cond")
  | with_reducible refine w_ret ?_
  | with_reducible refine w_next ?_
  | with_reducible refine w_ifS ?_
  | with_reducible refine w_test ?_
  | with_reducible refine w_tB ?_
  | with_reducible refine w_k ?_
  | with_reducible refine w_eqI ?_
  | with_reducible refine w_neI ?_
  | with_reducible refine w_eqS ?_
  | with_reducible refine w_neS ?_
  | with_reducible refine w_and ?_
  | with_reducible refine w_or ?_
  | with_reducible refine w_not ?_
  | with_reducible refine w_andV ?_
  | with_reducible refine w_orV ?_
  | with_reducible refine w_notV ?_
  | with_reducible refine w_ifE ?_
  | with_reducible refine w_true ?_
  | with_reducible refine w_false ?_
  | with_reducible refine w_ntrue ?_
  | with_reducible refine w_nfalse ?_
  | with_reducible refine w_call ?_
  | with_reducible refine c_int ?_
  | with_reducible refine c_abs ?_
  | with_reducible refine c_max ?_
  | with_reducible refine c_min ?_
  | with_reducible refine w_drop ?_
  | with_reducible refine w_sfld ?_
  | with_reducible refine w_meth ?_
  | with_reducible refine w_make ?_
  | with_reducible refine w_prop ?_
  | with_reducible refine w_callK ?_
  | with_reducible refine w_callN ?_
  | with_reducible refine w_star ?_
  | with_reducible refine w_gcons ?_
  | with_reducible refine w_gname ?_
  | with_reducible refine w_gnil ?_
  | with_reducible refine w_retN ?_
  | with_reducible refine w_tup ?_
  | with_reducible refine w_lst ?_
  | with_reducible refine w_fld ?_
  | with_reducible refine w_bm ?_
  | with_reducible refine w_bm0 ?_
  | with_reducible refine w_forL ?_
  | with_reducible refine w_forT ?_
  | with_reducible refine w_forS ?_
  | with_reducible refine w_forR ?_
  | with_reducible refine w_lcR ?_
  | with_reducible refine w_lcL ?_
  | with_reducible refine w_lcT ?_
  | with_reducible refine w_isN ?_
  | with_reducible refine w_notN ?_
  | with_reducible refine w_asg ?_
  | with_reducible refine w_gsub ?_
  | ((with_reducible refine' w_aug ?h1 ?_); (case h1 => rfl))
  | with_reducible refine w_augS ?_
  | with_reducible refine w_ipI ?_
  | with_reducible refine w_un ?_
  | with_reducible refine w_U ?_
  | ((with_reducible refine' w_iteF ?f1 ?_); case f1 => (first | (intro h; cases h; done) | decide))
  | ((with_reducible refine' w_iteT ?f1 ?_); case f1 => rfl)
  | ((with_reducible refine' w_iteNF ?f1 ?_); case f1 => rfl)
  | ((with_reducible refine' w_iteNT ?f1 ?_); case f1 => (first | (intro h; cases h; done) | decide))
  | ((with_reducible refine' c_isi ?t1 ?k1 ?_); (case t1 => walk_at "ty"); (case k1 => walk_at "kit"))
  | ((with_reducible refine' w_eq ?e1 ?_); case e1 => rfl)
  | ((with_reducible refine' w_ne ?e1 ?_); case e1 => rfl)
  | walk_at "u1")
local macro_rules | `(tactic| walk_at "s") => `(tactic| repeat walk_at "s1")
local macro_rules | `(tactic| walk_at "mem") => `(tactic| first | with_reducible exact List.mem_cons_self .. | ((with_reducible refine' List.mem_cons_of_mem _ ?q); (case q => walk_at "mem")) | assumption | ((with_reducible refine' List.mem_append_right _ ?q); (case q => walk_at "mem")) | (exact List.mem_append_left _ (by assumption)))
local macro_rules | `(tactic| walk_at "pk") => `(tactic| first | with_reducible exact Pk.here | ((with_reducible refine' Pk.there ?q); (case q => walk_at "pk")) | ((with_reducible refine' Pk.app ?q); (case q => walk_at "pk")))
local macro_rules | `(tactic| walk_at "pkb") => `(tactic| first | with_reducible exact PkB.here | ((with_reducible refine' PkB.there ?q); (case q => walk_at "pkb")) | ((with_reducible refine' PkB.app ?q); (case q => walk_at "pkb")))
local macro_rules | `(tactic| walk_at "spl") => `(tactic| first | with_reducible exact Spl.nil | ((with_reducible refine' Spl.cons ?h ?t); (case h => walk_at "pk"); (case t => walk_at "spl")) | ((with_reducible refine' Spl.blk ?h ?t); (case h => walk_at "pkb"); (case t => walk_at "spl")))
local macro_rules | `(tactic| walk_at "sbx") => `(tactic| first | with_reducible exact Sb.refl | with_reducible exact Sb.nil | with_reducible exact Sb.left | ((with_reducible refine' Sb.cons ?h ?t); (case h => walk_at "pk"); (case t => walk_at "sbx")) | ((with_reducible refine' Sb.blk ?h ?t); (case h => walk_at "pkb"); (case t => walk_at "sbx")) | ((with_reducible refine' Sb.drop ?q); (case q => walk_at "sbx")) | ((with_reducible refine' Sb.right ?q); (case q => walk_at "sbx")))
local macro_rules | `(tactic| walk_at "hd") => `(tactic| first | assumption | exact Hd.sb (by assumption) (by walk_at "sbx"))
local macro_rules | `(tactic| walk_at "sq") => `(tactic| first
  | assumption
  | exact Hd.sqL (by assumption) (by walk_at "mem")
  | exact Hd.sqT (by assumption) (by walk_at "mem")
  | exact Hd.sqF (by assumption) (by walk_at "mem")
  | (refine .inl ?_; walk_at "sq")
  | (refine .inr ?_; walk_at "sq"))
local macro_rules | `(tactic| walk_at "at") => `(tactic| first | rfl | assumption | exact atI_nat (by assumption))
local macro_rules | `(tactic| walk_at "dn1") => `(tactic| first
  | exact Dn.int | exact Dn.str | exact Dn.non | exact Dn.bl | assumption
  | ((refine' Dn.tp ?a1 ?m1 ?l1 ?p1); (case a1 => assumption); (case m1 => walk_at "mem"); (case l1 => (simp only [List.length_cons, List.length_nil]; omega)); (case p1 => walk_at "dns"))
  | ((refine' Dn.lt ?a1 ?m1 ?l1 ?p1); (case a1 => assumption); (case m1 => walk_at "mem"); (case l1 => (simp only [List.length_cons, List.length_nil]; omega)); (case p1 => walk_at "dns")))
local macro_rules | `(tactic| walk_at "dns") => `(tactic| first | exact Paired.nil | exact Dn.ints | ((refine' Paired.cons ?a1 ?b1); (case a1 => walk_at "dn1"); (case b1 => walk_at "dns")))
local macro_rules | `(tactic| walk_at "g1") => `(tactic| first
  | ((with_reducible refine' g_ixI ?h1 ?h2 ?h3 ?_); (case h1 => assumption); (case h2 => walk_at "mem"); (case h3 => omega); intro z hz)
  | ((with_reducible refine' g_ixIT ?h1 ?h2 ?h3 ?_); (case h1 => assumption); (case h2 => walk_at "mem"); (case h3 => omega); intro z hz)
  | ((with_reducible refine' g_setI ?h1 ?h2 ?h3 ?_); (case h1 => assumption); (case h2 => walk_at "pk"); (case h3 => omega); intro H2 hh2)
  | ((with_reducible refine' w_ixL ?h1 ?h2 ?_); (case h1 => walk_at "sq"); (case h2 => walk_at "at"))
  | ((with_reducible refine' w_ixT ?h1 ?h2 ?_); (case h1 => walk_at "sq"); (case h2 => walk_at "at"))
  | ((with_reducible refine' w_ixAny ?h1 ?h2 ?_); (case h1 => walk_at "sq"); (case h2 => walk_at "at"))
  | ((with_reducible refine' c_lenA ?h1 ?_); (case h1 => walk_at "sq"))
  | ((with_reducible refine' c_isi ?t1 ?k1 ?_); (case t1 => first | exact ty_T (by walk_at "sq") | exact ty_L (by walk_at "sq")); (case k1 => walk_at "kit"))
  | ((with_reducible refine' g_lst ?h1 ?h2 ?_); (case h1 => assumption); (case h2 => walk_at "sz"); intro p H2 hh2)
  | ((with_reducible refine' g_tup ?h1 ?h2 ?_); (case h1 => assumption); (case h2 => walk_at "sz"); intro p H2 hh2)
  | ((with_reducible refine' g_dict ?h1 ?_); (case h1 => assumption); intro p H2 hh2)
  | ((with_reducible refine' g_listL ?h1 ?h2 ?_); (case h1 => assumption); (case h2 => walk_at "sq"); intro p H2 hh2)
  | ((with_reducible refine' g_listT ?h1 ?h2 ?_); (case h1 => assumption); (case h2 => walk_at "sq"); intro p H2 hh2)
  | ((with_reducible refine' g_tupL ?h1 ?h2 ?_); (case h1 => assumption); (case h2 => walk_at "sq"); intro p H2 hh2)
  | ((with_reducible refine' g_set ?h1 ?h2 ?h3 ?_); (case h1 => assumption); (case h2 => walk_at "pk"); (case h3 => first | rfl | assumption | exact Evl.ixN_nat (by first | omega | (simp only [List.length_cons, List.length_nil]; omega))); intro H2 hh2)
  | ((with_reducible refine' g_kbm ?h1 ?h2 ?_); (case h1 => assumption); (case h2 => walk_at "mem"))
  | ((with_reducible refine' g_kbm0 ?h1 ?h2 ?_); (case h1 => assumption); (case h2 => walk_at "mem"))
  | ((with_reducible refine' g_app ?h1 ?h2 ?h3 ?_); (case h1 => assumption); (case h2 => walk_at "pk"); (case h3 => walk_at "sz"); intro H2 hh2)
  | ((with_reducible refine' g_kapp ?h1 ?h2 ?h3 ?_); (case h1 => assumption); (case h2 => walk_at "pk"); (case h3 => walk_at "sz"); intro H2 hh2)
  | ((with_reducible refine' g_fld ?h1 ?h2 ?h3 ?h4 ?h5 ?_); (case h1 => assumption); (case h2 => walk_at "mem"); (case h3 => assumption); (case h4 => assumption); (case h5 => rfl))
  | ((with_reducible refine' g_sfld ?h1 ?h2 ?h3 ?h4 ?h5 ?_); (case h1 => assumption); (case h2 => walk_at "pk"); (case h3 => assumption); (case h4 => assumption); (case h5 => decide); intro H2 hh2)
  | ((with_reducible refine' g_meth ?h1 ?h2 ?h3 ?_); (case h1 => assumption); (case h2 => walk_at "mem"); (case h3 => rfl))
  | ((with_reducible refine' g_prop ?h1 ?h2 ?_); (case h1 => assumption); (case h2 => walk_at "mem"))
  | ((with_reducible refine' g_make ?h1 ?_); (case h1 => assumption); intro x H2 hh2)
  | ((with_reducible refine' g_cat ?h1 ?h2 ?h3 ?h4 ?_); (case h1 => assumption); (case h2 => walk_at "mem"); (case h3 => walk_at "mem"); (case h4 => walk_at "sz"); intro p H2 hh2)
  | ((with_reducible refine' g_inT ?h1 ?h2 ?h3 ?h4 ?h5 ?_); (case h1 => assumption); (case h2 => walk_at "mem"); (case h3 => rfl); (case h4 => rfl); (case h5 => rfl)))
local macro_rules | `(tactic| walk_at "gs") => `(tactic| repeat first | walk_at "s1" | walk_at "g1")
local macro_rules | `(tactic| walk_at "ite") => `(tactic| first
  | ((with_reducible refine' w_iteT ?h1 ?_); (case h1 => omega))
  | ((with_reducible refine' w_iteF ?h1 ?_); (case h1 => omega))
  | (with_reducible refine w_ite ?_ ?_ <;> intro hq)
  | ((with_reducible refine' w_iteNT ?h1 ?_); (case h1 => omega))
  | ((with_reducible refine' w_iteNF ?h1 ?_); (case h1 => omega))
  | (with_reducible refine w_iteN ?_ ?_ <;> intro hq))
local macro_rules | `(tactic| walk_at "go") => `(tactic| repeat' first | walk_at "s1" | walk_at "g1" | walk_at "ite")
local macro_rules | `(tactic| walk_at "g1") => `(tactic| first
  | ((with_reducible refine' g_take1 ?h1 ?h2 ?h3 ?h4 ?_); (case h1 => assumption); (case h2 => walk_at "spl"); (case h3 => omega); (case h4 => omega); intro k H2 hk1 hh2)
  | ((with_reducible refine' g_take ?h1 ?h2 ?h4 ?_); (case h1 => assumption); (case h2 => walk_at "spl"); (case h4 => omega); intro k H2 hk1 hh2)
  | ((with_reducible refine' g_betweenN ?h1 ?h2 ?h5 ?h3 ?h4 ?_); (case h1 => assumption); (case h2 => walk_at "spl"); (case h5 => omega); (case h3 => omega); (case h4 => omega); intro k H2 hk1 hk2 hh2)
  | ((with_reducible refine' g_between ?h1 ?h2 ?h3 ?h4 ?_); (case h1 => assumption); (case h2 => walk_at "spl"); (case h3 => omega); (case h4 => omega); intro k H2 hk1 hk2 hh2)
  | ((with_reducible refine' g_size ?h1 ?h2 ?h3 ?h4 ?_); (case h1 => assumption); (case h2 => walk_at "spl"); (case h3 => omega); (case h4 => omega); intro k H2 hk1 hh2)
  | ((with_reducible refine' g_word ?h1 ?h2 ?_); (case h1 => assumption); (case h2 => walk_at "spl"); intro k H2 hk1 hh2))
section
variable {P : Program} {w : World} {K : PySem.W.Frag} {mg : Str → Option Value} {base : Heap} {aREG aOPS : Addr}
/-! ### frames, told by their holds and words -/
abbrev St1 := List (Nat × List Int)
inductive Cl1
  | take (w : Option (Addr × List Int))
  | share (f : Nat)
  | drop (f : Nat)
  | peek (f o : Nat)
  | poke (f o : Nat) (x : Int)
  | page (f : Nat)
  | holds (f : Nat)
def hat (S : St1) (f : Nat) : Nat := (S.getD f (0, [])).1
def wat (S : St1) (f : Nat) : List Int := (S.getD f (0, [])).2
def errD (nm : Str) (v : PyData) : PyData := .tuple [.str nm, v]
def lowest (S : St1) : Option Nat := S.findIdx? fun s => decide (s.1 = 0)
/-- the error, the answer, and the state behind a call -/
def stepS (S : St1) : Cl1 → PyData × PyData × St1
  | .take w => match lowest S with
    | none => (errD "Full" (.str "frame"), .none, S)
    | some i => (.none, .int i, S.set i (1, (w.map Prod.snd).getD (List.replicate 8 0)))
  | .holds f => (.none, .int (hat S f), S)
  | .share f => if hat S f = 0 then (errD "Unknown" (.int f), .none, S) else (.none, .none, S.set f (hat S f + 1, wat S f))
  | .drop f => if hat S f = 0 then (errD "Unknown" (.int f), .none, S) else (.none, .bool (decide (hat S f - 1 = 0)), S.set f (hat S f - 1, wat S f))
  | .peek f o => if hat S f = 0 then (errD "Unknown" (.int f), .none, S) else (.none, .int ((wat S f).getD o 0), S)
  | .page f => if hat S f = 0 then (errD "Unknown" (.int f), .none, S) else (.none, .list ((wat S f).map PyData.int), S)
  | .poke f o x => if hat S f = 0 then (errD "Unknown" (.int f), .none, S) else if 1 < hat S f then (errD "WrongState" (.int f), .none, S) else (.none, .none, S.set f (hat S f, (wat S f).set o x))
theorem step_len {S : St1} {c : Cl1} : (stepS S c).2.2.length = S.length := by
  cases c <;> simp only [stepS]
  all_goals repeat' split
  all_goals first | rfl | simp
def outS (S : St1) (c : Cl1) : PyData := .tuple [(stepS S c).1, (stepS S c).2.1]
def hsI (S : St1) : List Int := S.map fun s => (s.1 : Int)
theorem hsI_len {S : St1} : (hsI S).length = S.length := List.length_map ..
theorem hsI_at {S : St1} {f : Nat} (h : f < S.length) : (hsI S)[f]? = some (hat S f : Int) := by
  unfold hsI hat
  rw [List.getElem?_map, List.getD_eq_getElem?_getD, List.getElem?_eq_getElem h]
  rfl
theorem hsI_set {S : St1} {f h : Nat} {ws : List Int} : (hsI S).set f (h : Int) = hsI (S.set f (h, ws)) := by
  unfold hsI
  rw [List.map_set]
/-- the slots' pages: each frame that is held has its words -/
def PgOk (S : St1) (ps : List Pg) : Prop := ps.length = S.length ∧ ∀ f, f < S.length → 0 < hat S f → (wat S f).length = 8 ∧ ∃ a, ps[f]? = some (some (a, wat S f))
theorem hat_set {S : St1} {f g h : Nat} {ws : List Int} (hf : f < S.length) : hat (S.set f (h, ws)) g = if g = f then h else hat S g := by
  unfold hat
  rw [List.getD_eq_getElem?_getD, List.getD_eq_getElem?_getD, List.getElem?_set]
  by_cases e : f = g
  · subst e
    rw [if_pos rfl, if_pos rfl, if_pos hf]
    rfl
  · rw [if_neg e, if_neg (fun z => e z.symm)]
theorem wat_set {S : St1} {f g h : Nat} {ws : List Int} (hf : f < S.length) : wat (S.set f (h, ws)) g = if g = f then ws else wat S g := by
  unfold wat
  rw [List.getD_eq_getElem?_getD, List.getD_eq_getElem?_getD, List.getElem?_set]
  by_cases e : f = g
  · subst e
    rw [if_pos rfl, if_pos rfl, if_pos hf]
    rfl
  · rw [if_neg e, if_neg (fun z => e z.symm)]
/-- the holds of f change, its page stays -/
theorem PgOk.hold {S : St1} {ps : List Pg} {f h : Nat} (o : PgOk S ps) (hf : f < S.length) (h0 : 0 < hat S f) : PgOk (S.set f (h, wat S f)) ps := by
  refine ⟨by rw [List.length_set]; exact o.1, fun g hg h1 => ?_⟩
  rw [List.length_set] at hg
  rw [hat_set hf] at h1
  rw [wat_set hf]
  by_cases e : g = f
  · subst e
    rw [if_pos rfl]
    exact o.2 g hg h0
  · rw [if_neg e] at h1 ⊢
    exact o.2 g hg h1
/-- f has another page -/
theorem PgOk.page {S : St1} {ps : List Pg} {f h : Nat} {a : Addr} {ws : List Int} (o : PgOk S ps) (hf : f < S.length) (hl : ws.length = 8) : PgOk (S.set f (h, ws)) (ps.set f (some (a, ws))) := by
  refine ⟨by rw [List.length_set, List.length_set]; exact o.1, fun g hg h1 => ?_⟩
  rw [List.length_set] at hg
  rw [hat_set hf] at h1
  rw [wat_set hf]
  by_cases e : g = f
  · subst e
    rw [if_pos rfl]
    exact ⟨hl, a, List.getElem?_set_self (by rw [o.1]; exact hf)⟩
  · rw [if_neg e] at h1 ⊢
    rw [List.getElem?_set_ne (Ne.symm e)]
    exact o.2 g hg h1
theorem lowest_some {S : St1} {i : Nat} (h : lowest S = some i) : i < S.length ∧ hat S i = 0 ∧ ∀ j, j < i → hat S j ≠ 0 := by
  obtain ⟨hi, h1, h2⟩ := List.findIdx?_eq_some_iff_getElem.mp h
  refine ⟨hi, ?_, fun j hj => ?_⟩
  · unfold hat
    rw [List.getD_eq_getElem?_getD, List.getElem?_eq_getElem hi]
    exact of_decide_eq_true h1
  · unfold hat
    rw [List.getD_eq_getElem?_getD, List.getElem?_eq_getElem (by omega)]
    have := h2 j hj
    exact fun z => this (decide_eq_true z)
theorem lowest_none {S : St1} (h : lowest S = none) : ∀ j, j < S.length → hat S j ≠ 0 := fun j hj => by
  have := List.findIdx?_eq_none_iff.mp h S[j] (List.getElem_mem hj)
  unfold hat
  rw [List.getD_eq_getElem?_getD, List.getElem?_eq_getElem hj]
  exact of_decide_eq_false this
/-- the free frames among the first i -/
def frees (S : St1) (i : Nat) : List Int := ((List.range i).filter fun (j : Nat) => decide (hat S j = 0)).map fun (j : Nat) => (j : Int)
theorem frees_succ {S : St1} {i : Nat} : frees S (i + 1) = frees S i ++ (if hat S i = 0 then [(i : Int)] else []) := by
  unfold frees
  rw [List.range_succ, List.filter_append, List.map_append]
  by_cases h : hat S i = 0
  · rw [if_pos h]; simp [h]
  · rw [if_neg h]; simp [h]
theorem frees_len {S : St1} : ∀ {i : Nat}, (frees S i).length ≤ i
  | 0 => by unfold frees; simp
  | i + 1 => by
    rw [frees_succ, List.length_append]
    have := frees_len (S := S) (i := i)
    split <;> simp <;> omega
theorem frees_lowest {S : St1} {i : Nat} (h : lowest S = some i) : ∃ r, frees S S.length = (i : Int) :: r := by
  obtain ⟨hi, h0, hl⟩ := lowest_some h
  have e1 : ∀ j, j ≤ i → frees S j = [] := fun j => by
    induction j with
    | zero => intro _; unfold frees; simp
    | succ j ih => intro hj; rw [frees_succ, ih (by omega), if_neg (hl j (by omega))]; rfl
  have e2 : ∀ d, ∃ r, frees S (i + 1 + d) = (i : Int) :: r := fun d => by
    induction d with
    | zero => exact ⟨[], by rw [Nat.add_zero, frees_succ, e1 i (Nat.le_refl _), if_pos h0]; rfl⟩
    | succ d ih =>
      obtain ⟨r, e⟩ := ih
      exact ⟨_, by rw [← Nat.add_assoc, frees_succ, e]; rfl⟩
  obtain ⟨r, e⟩ := e2 (S.length - (i + 1))
  exact ⟨r, by rw [← e]; congr 1; omega⟩
theorem frees_none {S : St1} (h : lowest S = none) : frees S S.length = [] := by
  have e : ∀ j, j ≤ S.length → frees S j = [] := fun j => by
    induction j with
    | zero => intro _; unfold frees; simp
    | succ j ih => intro hj; rw [frees_succ, ih (by omega), if_neg (lowest_none h j (by omega))]; rfl
  exact e _ (Nat.le_refl _)
/-- a call, as it stands -/
def ClAt (K : PySem.W.Frag) (H : Hp) (t : Addr) : Cl1 → Prop
  | .take none => SqT K H t [.str "take", .non]
  | .take (some (a, ws)) => SqT K H t [.str "take", .ref a] ∧ SqL K H a (ws.map V.int)
  | .share f => SqT K H t [.str "share", .int f]
  | .drop f => SqT K H t [.str "drop", .int f]
  | .peek f o => SqT K H t [.str "peek", .int f, .int o]
  | .poke f o x => SqT K H t [.str "poke", .int f, .int o, .int x]
  | .page f => SqT K H t [.str "page", .int f]
  | .holds f => SqT K H t [.str "holds", .int f]
def ClOk (n : Nat) : Cl1 → Prop
  | .take none => True
  | .take (some (_, ws)) => ws.length = 8 ∧ ∀ x ∈ ws, (0 : Int) ≤ x ∧ x ≤ 65535
  | .share f => f < n
  | .drop f => f < n
  | .peek f o => f < n ∧ o < 8
  | .poke f o x => f < n ∧ o < 8 ∧ 0 ≤ x ∧ x ≤ 65535
  | .page f => f < n
  | .holds f => f < n
end
end K05
set_option Elab.async false
set_option linter.all false
set_option maxRecDepth 100000
set_option maxHeartbeats 4000000
namespace K05
open PySem PySem.Spec PyProof.Rows L2 Wk
local macro_rules | `(tactic| walk_at "u1") => `(tactic| fail "no more")
local macro_rules | `(tactic| walk_at "pos") => `(tactic| first | assumption | omega | decide | (simp only [Int.ofNat_eq_natCast] at *; omega))
local macro_rules | `(tactic| walk_at "sz") => `(tactic| first
  | (simp only [List.length_cons, List.length_nil]; decide)
  | exact Evl.sz_of (by omega)
  | exact Evl.sz_lt (by omega)
  | exact Evl.sz_of (by simp only [List.length_map, List.length_append, List.length_cons, List.length_nil, List.length_replicate]; omega)
  | exact Evl.sz_lt (by simp only [List.length_map, List.length_append, List.length_cons, List.length_nil, List.length_replicate]; omega))
local macro_rules | `(tactic| walk_at "cond") => `(tactic| first
  | exact Or.inr ⟨by decide, by decide⟩
  | (show (0 : Int) < _; first | decide | assumption | omega)
  | exact Or.inl ⟨by omega, by omega⟩
  | exact Or.inr ⟨by omega, by omega⟩
  | exact ⟨by decide, by decide, by decide⟩
  | exact log2_lt (by omega) (by omega)
  | exact ⟨by omega, by omega⟩)
local macro_rules | `(tactic| walk_at "ty") => `(tactic| first
  | exact ty_int | exact ty_bl | exact ty_str | exact ty_non
  | exact ty_L (by assumption) | exact ty_T (by assumption)
  | exact ty_L (SqL.of (by assumption)) | exact ty_T (SqT.of (by assumption)))
local macro_rules | `(tactic| walk_at "kit") => `(tactic| first
  | exact k_ii | exact k_ib | exact k_is | exact k_il | exact k_it
  | exact k_bb | exact k_bi | exact k_bs | exact k_bl | exact k_bt
  | exact k_ss | exact k_sb | exact k_si | exact k_sl | exact k_st
  | exact k_ll | exact k_lb | exact k_li | exact k_ls | exact k_lt
  | exact k_tt | exact k_tb | exact k_ti | exact k_ts | exact k_tl
  | exact k_nn | exact k_ni | exact k_ns | exact k_nl | exact k_nt)
local macro_rules | `(tactic| walk_at "s1") => `(tactic| first
  | with_reducible refine w_seq ?_
  | with_reducible refine w_set ?_
  | with_reducible refine w_op ?_
  | ((with_reducible refine' w_var ?h1 ?_); (case h1 => rfl))
  | with_reducible refine w_c ?_
  | with_reducible refine w_cb ?_
  | with_reducible refine w_cons ?_
  | with_reducible refine w_nil ?_
  | with_reducible refine w_I0 ?_
  | ((with_reducible refine' w_I ?c1 ?_); case c1 => walk_at "cond")
  | with_reducible refine w_ret ?_
  | with_reducible refine w_next ?_
  | with_reducible refine w_ifS ?_
  | with_reducible refine w_test ?_
  | with_reducible refine w_tB ?_
  | with_reducible refine w_k ?_
  | with_reducible refine w_eqI ?_
  | with_reducible refine w_neI ?_
  | with_reducible refine w_eqS ?_
  | with_reducible refine w_neS ?_
  | with_reducible refine w_and ?_
  | with_reducible refine w_or ?_
  | with_reducible refine w_not ?_
  | with_reducible refine w_andV ?_
  | with_reducible refine w_orV ?_
  | with_reducible refine w_notV ?_
  | with_reducible refine w_ifE ?_
  | with_reducible refine w_true ?_
  | with_reducible refine w_false ?_
  | with_reducible refine w_ntrue ?_
  | with_reducible refine w_nfalse ?_
  | with_reducible refine w_call ?_
  | with_reducible refine c_int ?_
  | with_reducible refine c_abs ?_
  | with_reducible refine c_max ?_
  | with_reducible refine c_min ?_
  | with_reducible refine w_drop ?_
  | with_reducible refine w_sfld ?_
  | with_reducible refine w_meth ?_
  | with_reducible refine w_make ?_
  | with_reducible refine w_prop ?_
  | with_reducible refine w_callK ?_
  | with_reducible refine w_callN ?_
  | with_reducible refine w_star ?_
  | with_reducible refine w_gcons ?_
  | with_reducible refine w_gname ?_
  | with_reducible refine w_gnil ?_
  | with_reducible refine w_retN ?_
  | with_reducible refine w_tup ?_
  | with_reducible refine w_lst ?_
  | with_reducible refine w_fld ?_
  | with_reducible refine w_bm ?_
  | with_reducible refine w_bm0 ?_
  | with_reducible refine w_forL ?_
  | with_reducible refine w_forT ?_
  | with_reducible refine w_forS ?_
  | with_reducible refine w_forR ?_
  | with_reducible refine w_lcR ?_
  | with_reducible refine w_lcL ?_
  | with_reducible refine w_lcT ?_
  | with_reducible refine w_isN ?_
  | with_reducible refine w_notN ?_
  | with_reducible refine w_asg ?_
  | with_reducible refine w_gsub ?_
  | ((with_reducible refine' w_aug ?h1 ?_); (case h1 => rfl))
  | with_reducible refine w_augS ?_
  | with_reducible refine w_ipI ?_
  | with_reducible refine w_un ?_
  | with_reducible refine w_U ?_
  | ((with_reducible refine' w_iteF ?f1 ?_); case f1 => (first | (intro h; cases h; done) | decide))
  | ((with_reducible refine' w_iteT ?f1 ?_); case f1 => rfl)
  | ((with_reducible refine' w_iteNF ?f1 ?_); case f1 => rfl)
  | ((with_reducible refine' w_iteNT ?f1 ?_); case f1 => (first | (intro h; cases h; done) | decide))
  | ((with_reducible refine' c_isi ?t1 ?k1 ?_); (case t1 => walk_at "ty"); (case k1 => walk_at "kit"))
  | ((with_reducible refine' w_eq ?e1 ?_); case e1 => rfl)
  | ((with_reducible refine' w_ne ?e1 ?_); case e1 => rfl)
  | walk_at "u1")
local macro_rules | `(tactic| walk_at "s") => `(tactic| repeat walk_at "s1")
local macro_rules | `(tactic| walk_at "mem") => `(tactic| first | with_reducible exact List.mem_cons_self .. | ((with_reducible refine' List.mem_cons_of_mem _ ?q); (case q => walk_at "mem")) | assumption | ((with_reducible refine' List.mem_append_right _ ?q); (case q => walk_at "mem")) | (exact List.mem_append_left _ (by assumption)))
local macro_rules | `(tactic| walk_at "pk") => `(tactic| first | with_reducible exact Pk.here | ((with_reducible refine' Pk.there ?q); (case q => walk_at "pk")) | ((with_reducible refine' Pk.app ?q); (case q => walk_at "pk")))
local macro_rules | `(tactic| walk_at "pkb") => `(tactic| first | with_reducible exact PkB.here | ((with_reducible refine' PkB.there ?q); (case q => walk_at "pkb")) | ((with_reducible refine' PkB.app ?q); (case q => walk_at "pkb")))
local macro_rules | `(tactic| walk_at "spl") => `(tactic| first | with_reducible exact Spl.nil | ((with_reducible refine' Spl.cons ?h ?t); (case h => walk_at "pk"); (case t => walk_at "spl")) | ((with_reducible refine' Spl.blk ?h ?t); (case h => walk_at "pkb"); (case t => walk_at "spl")))
local macro_rules | `(tactic| walk_at "sbx") => `(tactic| first | with_reducible exact Sb.refl | with_reducible exact Sb.nil | with_reducible exact Sb.left | ((with_reducible refine' Sb.cons ?h ?t); (case h => walk_at "pk"); (case t => walk_at "sbx")) | ((with_reducible refine' Sb.blk ?h ?t); (case h => walk_at "pkb"); (case t => walk_at "sbx")) | ((with_reducible refine' Sb.drop ?q); (case q => walk_at "sbx")) | ((with_reducible refine' Sb.right ?q); (case q => walk_at "sbx")))
local macro_rules | `(tactic| walk_at "hd") => `(tactic| first | assumption | exact Hd.sb (by assumption) (by walk_at "sbx"))
local macro_rules | `(tactic| walk_at "sq") => `(tactic| first
  | assumption
  | exact Hd.sqL (by assumption) (by walk_at "mem")
  | exact Hd.sqT (by assumption) (by walk_at "mem")
  | exact Hd.sqF (by assumption) (by walk_at "mem")
  | (refine .inl ?_; walk_at "sq")
  | (refine .inr ?_; walk_at "sq"))
local macro_rules | `(tactic| walk_at "at") => `(tactic| first | rfl | assumption | exact atI_nat (by assumption))
local macro_rules | `(tactic| walk_at "dn1") => `(tactic| first
  | exact Dn.int | exact Dn.str | exact Dn.non | exact Dn.bl | assumption
  | ((refine' Dn.tp ?a1 ?m1 ?l1 ?p1); (case a1 => assumption); (case m1 => walk_at "mem"); (case l1 => (simp only [List.length_cons, List.length_nil]; omega)); (case p1 => walk_at "dns"))
  | ((refine' Dn.lt ?a1 ?m1 ?l1 ?p1); (case a1 => assumption); (case m1 => walk_at "mem"); (case l1 => (simp only [List.length_cons, List.length_nil]; omega)); (case p1 => walk_at "dns")))
local macro_rules | `(tactic| walk_at "dns") => `(tactic| first | exact Paired.nil | exact Dn.ints | ((refine' Paired.cons ?a1 ?b1); (case a1 => walk_at "dn1"); (case b1 => walk_at "dns")))
local macro_rules | `(tactic| walk_at "g1") => `(tactic| first
  | ((with_reducible refine' g_ixI ?h1 ?h2 ?h3 ?_); (case h1 => assumption); (case h2 => walk_at "mem"); (case h3 => omega); intro z hz)
  | ((with_reducible refine' g_ixIT ?h1 ?h2 ?h3 ?_); (case h1 => assumption); (case h2 => walk_at "mem"); (case h3 => omega); intro z hz)
  | ((with_reducible refine' g_setI ?h1 ?h2 ?h3 ?_); (case h1 => assumption); (case h2 => walk_at "pk"); (case h3 => omega); intro H2 hh2)
  | ((with_reducible refine' w_ixL ?h1 ?h2 ?_); (case h1 => walk_at "sq"); (case h2 => walk_at "at"))
  | ((with_reducible refine' w_ixT ?h1 ?h2 ?_); (case h1 => walk_at "sq"); (case h2 => walk_at "at"))
  | ((with_reducible refine' w_ixAny ?h1 ?h2 ?_); (case h1 => walk_at "sq"); (case h2 => walk_at "at"))
  | ((with_reducible refine' c_lenA ?h1 ?_); (case h1 => walk_at "sq"))
  | ((with_reducible refine' c_isi ?t1 ?k1 ?_); (case t1 => first | exact ty_T (by walk_at "sq") | exact ty_L (by walk_at "sq")); (case k1 => walk_at "kit"))
  | ((with_reducible refine' g_lst ?h1 ?h2 ?_); (case h1 => assumption); (case h2 => walk_at "sz"); intro p H2 hh2)
  | ((with_reducible refine' g_tup ?h1 ?h2 ?_); (case h1 => assumption); (case h2 => walk_at "sz"); intro p H2 hh2)
  | ((with_reducible refine' g_dict ?h1 ?_); (case h1 => assumption); intro p H2 hh2)
  | ((with_reducible refine' g_listL ?h1 ?h2 ?_); (case h1 => assumption); (case h2 => walk_at "sq"); intro p H2 hh2)
  | ((with_reducible refine' g_listT ?h1 ?h2 ?_); (case h1 => assumption); (case h2 => walk_at "sq"); intro p H2 hh2)
  | ((with_reducible refine' g_tupL ?h1 ?h2 ?_); (case h1 => assumption); (case h2 => walk_at "sq"); intro p H2 hh2)
  | ((with_reducible refine' g_set ?h1 ?h2 ?h3 ?_); (case h1 => assumption); (case h2 => walk_at "pk"); (case h3 => first | rfl | assumption | exact Evl.ixN_nat (by first | omega | (simp only [List.length_cons, List.length_nil]; omega))); intro H2 hh2)
  | ((with_reducible refine' g_kbm ?h1 ?h2 ?_); (case h1 => assumption); (case h2 => walk_at "mem"))
  | ((with_reducible refine' g_kbm0 ?h1 ?h2 ?_); (case h1 => assumption); (case h2 => walk_at "mem"))
  | ((with_reducible refine' g_app ?h1 ?h2 ?h3 ?_); (case h1 => assumption); (case h2 => walk_at "pk"); (case h3 => walk_at "sz"); intro H2 hh2)
  | ((with_reducible refine' g_kapp ?h1 ?h2 ?h3 ?_); (case h1 => assumption); (case h2 => walk_at "pk"); (case h3 => walk_at "sz"); intro H2 hh2)
  | ((with_reducible refine' g_fld ?h1 ?h2 ?h3 ?h4 ?h5 ?_); (case h1 => assumption); (case h2 => walk_at "mem"); (case h3 => assumption); (case h4 => assumption); (case h5 => rfl))
  | ((with_reducible refine' g_sfld ?h1 ?h2 ?h3 ?h4 ?h5 ?_); (case h1 => assumption); (case h2 => walk_at "pk"); (case h3 => assumption); (case h4 => assumption); (case h5 => decide); intro H2 hh2)
  | ((with_reducible refine' g_meth ?h1 ?h2 ?h3 ?_); (case h1 => assumption); (case h2 => walk_at "mem"); (case h3 => rfl))
  | ((with_reducible refine' g_prop ?h1 ?h2 ?_); (case h1 => assumption); (case h2 => walk_at "mem"))
  | ((with_reducible refine' g_make ?h1 ?_); (case h1 => assumption); intro x H2 hh2)
  | ((with_reducible refine' g_cat ?h1 ?h2 ?h3 ?h4 ?_); (case h1 => assumption); (case h2 => walk_at "mem"); (case h3 => walk_at "mem"); (case h4 => walk_at "sz"); intro p H2 hh2)
  | ((with_reducible refine' g_inT ?h1 ?h2 ?h3 ?h4 ?h5 ?_); (case h1 => assumption); (case h2 => walk_at "mem"); (case h3 => rfl); (case h4 => rfl); (case h5 => rfl)))
local macro_rules | `(tactic| walk_at "gs") => `(tactic| repeat first | walk_at "s1" | walk_at "g1")
local macro_rules | `(tactic| walk_at "ite") => `(tactic| first
  | ((with_reducible refine' w_iteT ?h1 ?_); (case h1 => omega))
  | ((with_reducible refine' w_iteF ?h1 ?_); (case h1 => omega))
  | (with_reducible refine w_ite ?_ ?_ <;> intro hq)
  | ((with_reducible refine' w_iteNT ?h1 ?_); (case h1 => omega))
  | ((with_reducible refine' w_iteNF ?h1 ?_); (case h1 => omega))
  | (with_reducible refine w_iteN ?_ ?_ <;> intro hq))
local macro_rules | `(tactic| walk_at "go") => `(tactic| repeat' first | walk_at "s1" | walk_at "g1" | walk_at "ite")
local macro_rules | `(tactic| walk_at "g1") => `(tactic| first
  | ((with_reducible refine' g_take1 ?h1 ?h2 ?h3 ?h4 ?_); (case h1 => assumption); (case h2 => walk_at "spl"); (case h3 => omega); (case h4 => omega); intro k H2 hk1 hh2)
  | ((with_reducible refine' g_take ?h1 ?h2 ?h4 ?_); (case h1 => assumption); (case h2 => walk_at "spl"); (case h4 => omega); intro k H2 hk1 hh2)
  | ((with_reducible refine' g_betweenN ?h1 ?h2 ?h5 ?h3 ?h4 ?_); (case h1 => assumption); (case h2 => walk_at "spl"); (case h5 => omega); (case h3 => omega); (case h4 => omega); intro k H2 hk1 hk2 hh2)
  | ((with_reducible refine' g_between ?h1 ?h2 ?h3 ?h4 ?_); (case h1 => assumption); (case h2 => walk_at "spl"); (case h3 => omega); (case h4 => omega); intro k H2 hk1 hk2 hh2)
  | ((with_reducible refine' g_size ?h1 ?h2 ?h3 ?h4 ?_); (case h1 => assumption); (case h2 => walk_at "spl"); (case h3 => omega); (case h4 => omega); intro k H2 hk1 hh2)
  | ((with_reducible refine' g_word ?h1 ?h2 ?_); (case h1 => assumption); (case h2 => walk_at "spl"); intro k H2 hk1 hh2))
section
variable {P : Program} {w : World} {K : PySem.W.Frag} {mg : Str → Option Value} {base : Heap} {aREG aOPS : Addr}
/-- Frames, the class -/
structure FrC (K : PySem.W.Frag) (C : Addr) : Prop where
  cl : Cls K C
  nh : NoAttr K C "_holds"
  np : NoAttr K C "_pages"
abbrev frI (F C hl pl : Addr) : Cell := insC F C [("_holds", .ref hl), ("_pages", .ref pl)]
def sp_isl8 (K : PySem.W.Frag) (tP : Addr) : Sp := fun vs H Q _ => ∃ (l : Addr) (ws : List Int), vs = [.ref l, .int 8, .int 8] ∧ SqL K H l (ws.map V.int) ∧ ws.length = 8 ∧ (∀ x ∈ ws, (0 : Int) ≤ x ∧ x ≤ 65535) ∧ GxR.TabG H tP ∧ ∀ H', GxR.TabG H' tP → Upt [tP] H H' → Q (.bl true) H'
theorem all_words {ws : List Int} (h : ∀ x ∈ ws, (0 : Int) ≤ x ∧ x ≤ 65535) : (ws.map V.int).all isW = true := by
  rw [List.all_eq_true]
  intro v hv
  obtain ⟨i, hi, rfl⟩ := List.mem_map.mp hv
  exact decide_eq_true (h i hi)
theorem kh_ints {H : Hp} {ws : List Int} : ∀ v ∈ ws.map V.int, ∃ t, KH K H v t := fun v h => by
  obtain ⟨i, _, rfl⟩ := List.mem_map.mp h
  exact ⟨_, .int⟩
theorem c_isl8 {tP : Addr} (T : Txt K mg aREG aOPS) (d : DefAt K mg "is_list_of_words" s_is_list_of_words) (c_are_words : C8.Cal P w K mg base 4 "are_words" (sp_words K tP) []) : C8.Cal P w K mg base 5 "is_list_of_words" (sp_isl8 K tP) [] := by
  refine mk d sc_is_list_of_words (fun _ _ _ _ _ _ us hl => match us, hl with | [_, _, _], _ => rfl) (fun vs H Q E h => ?_) (fun f cdv A outer s H vs Q E hr h => ?_)
  · obtain ⟨l, ws, rfl, _⟩ := h
    rfl
  · obtain ⟨l, ws, rfl, hq, h8, hw, hT, q⟩ := h
    refine ⟨_, (pss_one (ps_ret (pe_and (pe_callB call_isi (by rfl) T.b_isinstance (by decide +kernel) (pa_cons (pv 0) (pa_cons (pe_bltn (v := .ty "list") (by rfl) T.b_list (by decide +kernel) rfl) pa_nil))) (pe_and (pe_chain op_le op_le (pv 1) (pe_callB Wk.b_len (by rfl) T.b_len (by decide +kernel) (pa_cons (pv 0) pa_nil)) (pv 2)) (pe_one (C8.pe_c c_are_words hr (by first | decide | omega) rfl (pa_cons (pv 0) pa_nil))))))), ?_⟩
    walk_at "s"
    show tChain _ _ _ _ _ _ _ _
    refine ⟨_, rfl, ?_⟩
    walk_at "s"
    refine c_lenL hq ?_
    walk_at "s"
    refine w_iteT (by rw [List.length_map]; omega) ?_
    refine ⟨_, rfl, _, _, rfl, rfl, _, rfl, ?_⟩
    refine w_iteT (by rw [List.length_map]; omega) ?_
    walk_at "s"
    exact u_words (.inl hq) kh_ints hT (all_words hw) fun H' h1 h2 => q H' h1 h2
def sp_askW8 (K : PySem.W.Frag) (tP : Addr) : Sp := fun vs H Q _ => ∃ (z : Str) (l : Addr) (ws : List Int), vs = [.str z, .ref l, .int 8, .int 8] ∧ SqL K H l (ws.map V.int) ∧ ws.length = 8 ∧ (∀ x ∈ ws, (0 : Int) ≤ x ∧ x ≤ 65535) ∧ GxR.TabG H tP ∧ ∀ H', GxR.TabG H' tP → Upt [tP] H H' → Q .non H'
theorem c_askW8 {tP : Addr} (T : Txt K mg aREG aOPS) (d : DefAt K mg "ask_words" s_ask_words) (c_is_list_of_words : C8.Cal P w K mg base 5 "is_list_of_words" (sp_isl8 K tP) []) : C8.Cal P w K mg base 6 "ask_words" (sp_askW8 K tP) [] := by
  refine mk d sc_ask_words (fun _ _ _ _ _ _ us hl => match us, hl with | [_, _, _, _], _ => rfl) (fun vs H Q E h => ?_) (fun f cdv A outer s H vs Q E hr h => ?_)
  · obtain ⟨z, l, ws, rfl, _⟩ := h
    rfl
  · obtain ⟨z, l, ws, rfl, hq, h8, hw, hT, q⟩ := h
    refine ⟨_, (pss_one (ps_if (pt_not (pt_val (C8.pe_c c_is_list_of_words hr (by first | decide | omega) rfl (pa_cons (pv 1) (pa_cons (pv 2) (pa_cons (pv 3) pa_nil))))))
    (pss_one ps_never)
    pss_nil)), ?_⟩
    walk_at "s"
    refine ⟨l, ws, rfl, hq, h8, hw, hT, fun H' h1 h2 => ?_⟩
    walk_at "s"
    exact q H' h1 h2
section
variable {C tP : Addr}
/-- Frames(many) -/
def sp_frI (C : Addr) : Sp := fun vs H Q _ => ∃ (F : Addr) (n : Nat) (R : List Cell), vs = [.ref F, .int n] ∧ 1 ≤ n ∧ n ≤ 96 ∧ Hd H (insC F C [] :: R) ∧
  ∀ hl pl H', Hd H' (frI F C hl pl :: lstC hl ((hsI (List.replicate n (0, []))).map V.int) :: lstC pl ((List.replicate n none).map pgV) :: (pgC (List.replicate n none) ++ R)) → Q .non H'
theorem pgC_repl : ∀ n : Nat, pgC (List.replicate n none) = []
  | 0 => rfl
  | n + 1 => pgC_repl n
theorem rep_flat {v : V} : ∀ n : Nat, (List.replicate n [v]).flatten = List.replicate n v
  | 0 => rfl
  | n + 1 => by rw [List.replicate_succ, List.flatten_cons, rep_flat n]; rfl
theorem c_frI {f : Addr} {fd : FuncData} (T : Txt K mg aREG aOPS) (L : FrC K C) (d : DefM K "__init__" "Frames.__init__" s_Frames____init__ [] f fd) (M : Mk K C f) (hm : mg "Frames" = some (.ref C)) (c_ask_range : C8.Cal P w K mg base 3 "ask_range" (sp_ask K) []) : C8.Mak P w K mg base 4 "Frames" C (sp_frI C) [] := by
  refine mkI (dvs' := []) d M hm sc_Frames____init__ ⟨[], .nil, FunD.bindsN (show FunD K "__init__" "Frames.__init__" (defArgs s_Frames____init__) (defBody s_Frames____init__) (defScope s_Frames____init__) [] [] f fd from d) fun _ _ _ _ _ _ us hl => match us, hl with | [_, _], _ => rfl⟩ (fun vs H Q E h => ?_) (fun f cdv A outer s H vs Q E hr h => ?_)
  · obtain ⟨F, n, R, rfl, _⟩ := h
    rfl
  · obtain ⟨F, n, R, rfl, h0, h1, hh, q⟩ := h
    refine ⟨_, (pss_cons (ps_expr (C8.pe_c c_ask_range hr (by first | decide | omega) rfl (pa_cons pe_str (pa_cons (pv 1) (pa_cons pe_int (pa_cons pe_int pa_nil))))))
  (pss_cons (ps_fld (pv 0) (pe_op op_rep (pe_lst (pa_cons pe_int pa_nil)) (pv 1)) rfl)
  (pss_one (ps_fld (pv 0) (pe_op op_rep (pe_lst (pa_cons pe_non pa_nil)) (pv 1)) rfl)))), ?_⟩
    have hc := L.cl
    have nh := L.nh
    have np := L.np
    walk_at "gs"
    refine u_ask ⟨by omega, by omega⟩ ?_
    walk_at "gs"
    rename_i p1 H1 h1'
    refine g_rep h1' (by walk_at "mem") (by omega) (by omega) (by rw [Int.toNat_natCast]; exact Nat.le_trans (show 1 * n ≤ 96 by omega) (by decide)) fun p2 H2 h2 => ?_
    rw [Int.toNat_natCast, rep_flat] at h2
    walk_at "gs"
    rename_i H3 h3 p4 H4 h4
    refine g_rep h4 (by walk_at "mem") (by omega) (by omega) (by rw [Int.toNat_natCast]; exact Nat.le_trans (show 1 * n ≤ 96 by omega) (by decide)) fun p5 H5 h5 => ?_
    rw [Int.toNat_natCast, rep_flat] at h5
    walk_at "gs"
    replace h5 : Hd H5 (lstC p5 (List.replicate n V.non) :: lstC p4 [V.non] :: insC F C [("_holds", .ref p2)] :: lstC p2 (List.replicate n (V.int 0)) :: lstC p1 [V.int 0] :: R) := h5
    refine g_sfld h5 (by walk_at "pk") hc np (by exact (show 1 < 1000 by omega)) fun H6 h6 => ?_
    replace h6 : Hd H6 (frI F C p2 p5 :: lstC p5 (List.replicate n V.non) :: lstC p4 [V.non] :: lstC p2 (List.replicate n (V.int 0)) :: lstC p1 [V.int 0] :: R) := h6
    have e1 : (hsI (List.replicate n (0, []))).map V.int = List.replicate n (V.int 0) := by unfold hsI; simp
    have e2 : (List.replicate n (none : Pg)).map pgV = List.replicate n V.non := by simp [pgV]
    refine q p2 p5 H6 ?_
    rw [e1, e2, pgC_repl]
    exact (show Hd H6 (frI F C p2 p5 :: lstC p2 (List.replicate n (V.int 0)) :: lstC p5 (List.replicate n V.non) :: R) from Hd.sb h6 (by walk_at "sbx"))
/-- the free frames -/
def sp_free (C : Addr) : Sp := fun vs H Q _ => ∃ (F hl pl : Addr) (S : St1) (L : List Cell), vs = [.ref F] ∧ S.length ≤ 96 ∧ frI F C hl pl ∈ L ∧ lstC hl ((hsI S).map V.int) ∈ L ∧ Hd H L ∧ ∀ p H', Hd H' (lstC p ((frees S S.length).map V.int) :: L) → Q (.ref p) H'
theorem c_free (T : Txt K mg aREG aOPS) (L : FrC K C) (d : PrpAt K C "free" "Frames.free" s_Frames__free) : Prp P w K mg base 1 C "free" (sp_free C) := by
  refine mkP d sc_Frames__free (fun _ _ _ _ _ _ us hl => match us, hl with | [_], _ => rfl) (fun vs H Q E h => ?_) (fun f cdv A outer s H vs Q E hr h => ?_)
  · obtain ⟨F, hl, pl, S, L, rfl, _⟩ := h
    rfl
  · obtain ⟨F, hl, pl, S, M, rfl, hS, m1, m2, hh, q⟩ := h
    refine ⟨_, (pss_one (ps_ret (pe_lc (own := [("frame", 1), ("holds", 2)]) rfl sc_Frames__free.nd (pi_enum rfl T.b_enumerate (pa_cons (pe_fld (pv 0) rfl) pa_nil)) (blkOk_by (own := [("frame", 1), ("holds", 2)]) (N := nm_Frames__free) (sc := defScope s_Frames__free) (by decide +kernel)) (fun _ _ _ _ _ => (show PG _ _ (gTup K 2 _) from (pg_tup rfl (pgs_cons (pg_name (i := 1) sc_Frames__free.nd rfl (Or.inl rfl)) (pgs_cons (pg_name (i := 2) sc_Frames__free.nd rfl (Or.inl rfl)) pgs_nil))))) (fun _ _ _ _ _ => (pts_one (pt_cmpR op_eq (pv 2) pe_int (nomark _)))) (fun _ _ _ _ _ => (pv 1))))), ?_⟩
    have hc := L.cl
    have nh := L.nh
    walk_at "gs"
    refine w_lcE ?_
    walk_at "gs"
    refine g_lcE hh (by decide) (hh.sqL m2) (fun i D H => Hd H (lstC D ((frees S i).map V.int) :: M)) (fun D H1 h1 => h1) (fun i D H _ h => h.tail.sqL m2) ?_ ?_
    · intro i x D H1 H2 hi h1 U
      have hlt := (List.getElem?_eq_some_iff.mp hi).1
      rw [List.length_map, hsI_len] at hlt
      rw [List.getElem?_map, hsI_at hlt] at hi
      cases hi
      have h2 := h1.upt0 U
      walk_at "gs"
      have hf := frees_len (S := S) (i := i)
      refine w_ite (fun hq => ?_) (fun hq => ?_)
      · walk_at "gs"
        rename_i H3 h3
        rw [frees_succ, if_pos (by omega), List.map_append]
        exact h3
      · rw [frees_succ, if_neg (by omega), List.append_nil]
        exact h2
    · intro D H1 h1
      rw [List.length_map, hsI_len] at h1
      exact q D H1 h1
def sp_askF (C : Addr) : Sp := fun vs H Q _ => ∃ (F hl pl : Addr) (ns : List Int) (f : Nat), vs = [.ref F, .int f] ∧ (∃ dx, H F = some (.ins C dx [("_holds", .ref hl), ("_pages", .ref pl)])) ∧ H hl = some (.lst (ns.map V.int)) ∧ f < ns.length ∧ Q .non H
theorem c_askF (T : Txt K mg aREG aOPS) (L : FrC K C) (d : MetAt K C "_ask_frame" "Frames._ask_frame" s_Frames___ask_frame) (c_ask_range : C8.Cal P w K mg base 3 "ask_range" (sp_ask K) []) : C8.Met P w K mg base 4 C "_ask_frame" (sp_askF C) [] := by
  refine mkM d sc_Frames___ask_frame (fun _ _ _ _ _ _ us hl => match us, hl with | [_, _], _ => rfl) (fun vs H Q E h => ?_) (fun f cdv A outer s H vs Q E hr h => ?_)
  · obtain ⟨F, hl, pl, ns, f, rfl, _⟩ := h
    rfl
  · obtain ⟨F, hl, pl, ns, f, rfl, ⟨dx, hi⟩, hn, hf, q⟩ := h
    refine ⟨_, (pss_one (ps_expr (C8.pe_c c_ask_range hr (by first | decide | omega) rfl (pa_cons pe_str (pa_cons (pv 1) (pa_cons pe_int (pa_cons (pe_op op_sub (pe_callB Wk.b_len (by rfl) T.b_len (by decide +kernel) (pa_cons (pe_fld (pv 0) rfl) pa_nil)) pe_int) pa_nil))))))), ?_⟩
    walk_at "s"
    refine w_kfld hi L.cl L.nh rfl ?_
    walk_at "s"
    refine c_lenL (SqL.of hn) ?_
    walk_at "s"
    refine u_ask ⟨by omega, by rw [List.length_map]; omega⟩ ?_
    exact q
def sp_used (C : Addr) : Sp := fun vs H Q _ => ∃ (F hl pl : Addr) (ns : List Int) (f : Nat) (z : Int), vs = [.ref F, .int f] ∧ f ≤ 95 ∧ (∃ dx, H F = some (.ins C dx [("_holds", .ref hl), ("_pages", .ref pl)])) ∧ H hl = some (.lst (ns.map V.int)) ∧ ns[f]? = some z ∧ z ≠ 0 ∧ Q .non H
theorem c_used (T : Txt K mg aREG aOPS) (L : FrC K C) (d : MetAt K C "_ask_used" "Frames._ask_used" s_Frames___ask_used) : C8.Met P w K mg base 1 C "_ask_used" (sp_used C) [] := by
  refine mkM d sc_Frames___ask_used (fun _ _ _ _ _ _ us hl => match us, hl with | [_, _], _ => rfl) (fun vs H Q E h => ?_) (fun f cdv A outer s H vs Q E hr h => ?_)
  · obtain ⟨F, hl, pl, ns, f, z, rfl, _⟩ := h
    rfl
  · obtain ⟨Fa, hl, pl, ns, fr, z, rfl, hf, ⟨dx, hi⟩, hn, hz, hne, q⟩ := h
    refine ⟨_, (pss_one (ps_if (pt_cmpR op_eq (pe_ix ix_list (pe_fld (pv 0) rfl) (pv 1) (fun _ _ => rfl)) pe_int (nomark _))
    (pss_one ps_never)
    pss_nil)), ?_⟩
    walk_at "s"
    refine w_kfld hi L.cl L.nh rfl ?_
    walk_at "s"
    refine w_ixL (v := .int z) (SqL.of hn) (atI_nat (by rw [List.getElem?_map, hz]; rfl)) ?_
    walk_at "s"
    refine w_iteF hne ?_
    exact q
end
section
variable {C tP : Addr}
/-- the frames at F, and what else stands -/
abbrev frL (F C hl pl : Addr) (S : St1) (ps : List Pg) (R : List Cell) : List Cell := frI F C hl pl :: lstC hl ((hsI S).map V.int) :: lstC pl (ps.map pgV) :: (pgC ps ++ R)
theorem set_self {α : Type} {xs : List α} {i : Nat} {x : α} (h : xs[i]? = some x) : xs.set i x = xs := by
  obtain ⟨_, e⟩ := List.getElem?_eq_some_iff.mp h
  rw [← e, List.set_getElem_self]
def sp_share (C : Addr) : Sp := fun vs H Q _ => ∃ (F hl pl : Addr) (f : Nat) (S : St1) (ps : List Pg) (R : List Cell), vs = [.ref F, .int f] ∧ f < S.length ∧ S.length ≤ 96 ∧ PgOk S ps ∧ Hd H (frL F C hl pl S ps R) ∧ 0 < hat S f ∧ ∀ H', Hd H' (frL F C hl pl (S.set f (hat S f + 1, wat S f)) ps R) → Q .non H'
def sp_drop (C : Addr) : Sp := fun vs H Q _ => ∃ (F hl pl : Addr) (f : Nat) (S : St1) (ps : List Pg) (R : List Cell), vs = [.ref F, .int f] ∧ f < S.length ∧ S.length ≤ 96 ∧ PgOk S ps ∧ Hd H (frL F C hl pl S ps R) ∧ 0 < hat S f ∧ ∀ H', Hd H' (frL F C hl pl (S.set f (hat S f - 1, wat S f)) ps R) → Q (.bl (decide (hat S f - 1 = 0))) H'
def sp_peek (C : Addr) : Sp := fun vs H Q _ => ∃ (F hl pl : Addr) (f o : Nat) (S : St1) (ps : List Pg) (R : List Cell), vs = [.ref F, .int f, .int o] ∧ f < S.length ∧ o < 8 ∧ S.length ≤ 96 ∧ PgOk S ps ∧ Hd H (frL F C hl pl S ps R) ∧ 0 < hat S f ∧ ∀ H', Hd H' (frL F C hl pl S ps R) → Q (.int ((wat S f).getD o 0)) H'
def sp_page (C : Addr) : Sp := fun vs H Q _ => ∃ (F hl pl : Addr) (f : Nat) (S : St1) (ps : List Pg) (R : List Cell), vs = [.ref F, .int f] ∧ f < S.length ∧ S.length ≤ 96 ∧ PgOk S ps ∧ Hd H (frL F C hl pl S ps R) ∧ 0 < hat S f ∧ ∀ p H', Hd H' (lstC p ((wat S f).map V.int) :: frL F C hl pl S ps R) → Q (.ref p) H'
def sp_holds (C : Addr) : Sp := fun vs H Q _ => ∃ (F hl pl : Addr) (f : Nat) (S : St1) (ps : List Pg) (R : List Cell), vs = [.ref F, .int f] ∧ f < S.length ∧ S.length ≤ 96 ∧ Hd H (frL F C hl pl S ps R) ∧ Q (.int (hat S f)) H
def sp_poke (C : Addr) : Sp := fun vs H Q _ => ∃ (F hl pl : Addr) (f o : Nat) (x : Int) (S : St1) (ps : List Pg) (R : List Cell), vs = [.ref F, .int f, .int o, .int x] ∧ f < S.length ∧ o < 8 ∧ 0 ≤ x ∧ x ≤ 65535 ∧ S.length ≤ 96 ∧ PgOk S ps ∧ Hd H (frL F C hl pl S ps R) ∧ hat S f = 1 ∧
  ∀ ps' H', PgOk (S.set f (hat S f, (wat S f).set o x)) ps' → Hd H' (frL F C hl pl (S.set f (hat S f, (wat S f).set o x)) ps' R) → Q .non H'
def sp_ftake (C tP : Addr) : Sp := fun vs H Q _ => ∃ (F hl pl : Addr) (v : V) (wo : Option (Addr × List Int)) (i : Nat) (S : St1) (ps : List Pg) (R : List Cell), vs = [.ref F, v] ∧ S.length ≤ 96 ∧ PgOk S ps ∧ Hd H (tblC tP :: frL F C hl pl S ps R) ∧
  (v = .non ∧ wo = none ∨ ∃ a ws, v = .ref a ∧ wo = some (a, ws) ∧ ws.length = 8 ∧ (∀ x ∈ ws, (0 : Int) ≤ x ∧ x ≤ 65535) ∧ lstC a (ws.map V.int) ∈ R) ∧ lowest S = some i ∧
  (∀ ps' H', PgOk (S.set i (1, (wo.map Prod.snd).getD (List.replicate 8 0))) ps' → Hd H' (tblC tP :: frL F C hl pl (S.set i (1, (wo.map Prod.snd).getD (List.replicate 8 0))) ps' R) → Q (.int i) H')
theorem s_share (T : Txt K mg aREG aOPS) (L : FrC K C) (d : MetAt K C "share" "Frames.share" s_Frames__share) (c_Frames__ask_frame : C8.Met P w K mg base 4 C "_ask_frame" (sp_askF C) []) (c_Frames__ask_used : C8.Met P w K mg base 1 C "_ask_used" (sp_used C) []) : C8.Met P w K mg base 5 C "share" (sp_share C) [] := by
  refine mkM d sc_Frames__share (fun _ _ _ _ _ _ us hl => match us, hl with | [_, _], _ => rfl) (fun vs H Q E h => ?_) (fun f cdv A outer s H vs Q E hr h => ?_)
  · obtain ⟨F, hl, pl, f, S, ps, R, rfl, _⟩ := h
    rfl
  · obtain ⟨Fa, hl, pl, fr, S, ps, R, rfl, hf, h96, ok, hh, hpos, q1⟩ := h
    refine ⟨_, (pss_cons (ps_expr (C8.pe_mt c_Frames__ask_frame hr (by first | decide | omega) (pv 0) (pa_cons (pv 1) pa_nil)))
  (pss_cons (ps_expr (C8.pe_mt c_Frames__ask_used hr (by first | decide | omega) (pv 0) (pa_cons (pv 1) pa_nil)))
  (pss_one (ps_augS (pe_fld (pv 0) rfl) (pv 1) Wk.get_list pe_int ip_add set_list)))), ?_⟩
    have hc := L.cl
    have nh := L.nh
    have np := L.np
    have h0 : Hd H (frI Fa C hl pl :: lstC hl ((hsI S).map V.int) :: lstC pl (ps.map pgV) :: (pgC ps ++ R)) := hh
    obtain ⟨dx, hi⟩ := h0.ins (List.mem_cons_self ..)
    have hn := h0.lst (a := hl) (by walk_at "mem")
    have hz := hsI_at hf
    have hlen := hsI_len (S := S)
    have hpl : (ps.map pgV).length = ps.length := List.length_map ..
    walk_at "gs"
    refine ⟨Fa, hl, pl, hsI S, fr, rfl, ⟨dx, hi⟩, hn, by rw [hsI_len]; exact hf, ?_⟩
    walk_at "gs"
    refine ⟨Fa, hl, pl, hsI S, fr, _, rfl, by omega, ⟨dx, hi⟩, hn, hz, by omega, ?_⟩
    obtain ⟨h8, a, hpg⟩ := ok.2 fr hf hpos
    walk_at "gs"
    rename_i z hz2 H2 h2
    obtain rfl : z = (hat S fr : Int) := by
      rw [hz] at hz2
      exact (Option.some.inj hz2).symm
    rw [show ((hat S fr : Int) + 1) = ((hat S fr + 1 : Nat) : Int) by omega, hsI_set (ws := wat S fr)] at h2
    exact q1 H2 (Hd.sb (A := frI Fa C hl pl :: lstC hl ((hsI (S.set fr (hat S fr + 1, wat S fr))).map V.int) :: lstC pl (ps.map pgV) :: (pgC ps ++ R)) h2 (by walk_at "sbx"))
theorem s_drop (T : Txt K mg aREG aOPS) (L : FrC K C) (d : MetAt K C "drop" "Frames.drop" s_Frames__drop) (c_Frames__ask_frame : C8.Met P w K mg base 4 C "_ask_frame" (sp_askF C) []) (c_Frames__ask_used : C8.Met P w K mg base 1 C "_ask_used" (sp_used C) []) : C8.Met P w K mg base 5 C "drop" (sp_drop C) [] := by
  refine mkM d sc_Frames__drop (fun _ _ _ _ _ _ us hl => match us, hl with | [_, _], _ => rfl) (fun vs H Q E h => ?_) (fun f cdv A outer s H vs Q E hr h => ?_)
  · obtain ⟨F, hl, pl, f, S, ps, R, rfl, _⟩ := h
    rfl
  · obtain ⟨Fa, hl, pl, fr, S, ps, R, rfl, hf, h96, ok, hh, hpos, q1⟩ := h
    refine ⟨_, (pss_cons (ps_expr (C8.pe_mt c_Frames__ask_frame hr (by first | decide | omega) (pv 0) (pa_cons (pv 1) pa_nil)))
  (pss_cons (ps_expr (C8.pe_mt c_Frames__ask_used hr (by first | decide | omega) (pv 0) (pa_cons (pv 1) pa_nil)))
  (pss_cons (ps_augS (pe_fld (pv 0) rfl) (pv 1) Wk.get_list pe_int ip_sub set_list)
  (pss_one (ps_ret (pe_cmpR op_eq (pe_ix ix_list (pe_fld (pv 0) rfl) (pv 1) (fun _ _ => rfl)) pe_int (nomark _))))))), ?_⟩
    have hc := L.cl
    have nh := L.nh
    have np := L.np
    have h0 : Hd H (frI Fa C hl pl :: lstC hl ((hsI S).map V.int) :: lstC pl (ps.map pgV) :: (pgC ps ++ R)) := hh
    obtain ⟨dx, hi⟩ := h0.ins (List.mem_cons_self ..)
    have hn := h0.lst (a := hl) (by walk_at "mem")
    have hz := hsI_at hf
    have hlen := hsI_len (S := S)
    have hpl : (ps.map pgV).length = ps.length := List.length_map ..
    walk_at "gs"
    refine ⟨Fa, hl, pl, hsI S, fr, rfl, ⟨dx, hi⟩, hn, by rw [hsI_len]; exact hf, ?_⟩
    walk_at "gs"
    refine ⟨Fa, hl, pl, hsI S, fr, _, rfl, by omega, ⟨dx, hi⟩, hn, hz, by omega, ?_⟩
    obtain ⟨h8, a, hpg⟩ := ok.2 fr hf hpos
    walk_at "gs"
    rename_i z hz2 H2 h2
    obtain rfl : z = (hat S fr : Int) := by
      rw [hz] at hz2
      exact (Option.some.inj hz2).symm
    rw [show ((hat S fr : Int) - 1) = ((hat S fr - 1 : Nat) : Int) by omega, hsI_set (ws := wat S fr)] at h2
    have hz4 := hsI_at (S := S.set fr (hat S fr - 1, wat S fr)) (f := fr) (by rw [List.length_set]; exact hf)
    rw [hat_set hf, if_pos rfl] at hz4
    refine w_ixL (h2.sqL (by walk_at "mem")) (atI_nat (v := .int ((hat S fr - 1 : Nat) : Int)) (by rw [List.getElem?_map, hz4]; rfl)) ?_
    walk_at "gs"
    have e : decide (((hat S fr - 1 : Nat) : Int) = 0) = decide (hat S fr - 1 = 0) := by
      by_cases h : hat S fr - 1 = 0
      · rw [decide_eq_true h, decide_eq_true (by omega)]
      · rw [decide_eq_false h, decide_eq_false (by omega)]
    rw [e]
    exact q1 H2 (Hd.sb (A := frI Fa C hl pl :: lstC hl ((hsI (S.set fr (hat S fr - 1, wat S fr))).map V.int) :: lstC pl (ps.map pgV) :: (pgC ps ++ R)) h2 (by walk_at "sbx"))
theorem s_peek (T : Txt K mg aREG aOPS) (L : FrC K C) (d : MetAt K C "peek" "Frames.peek" s_Frames__peek) (c_Frames__ask_frame : C8.Met P w K mg base 4 C "_ask_frame" (sp_askF C) []) (c_ask_range : C8.Cal P w K mg base 3 "ask_range" (sp_ask K) []) (c_Frames__ask_used : C8.Met P w K mg base 1 C "_ask_used" (sp_used C) []) : C8.Met P w K mg base 5 C "peek" (sp_peek C) [] := by
  refine mkM d sc_Frames__peek (fun _ _ _ _ _ _ us hl => match us, hl with | [_, _, _], _ => rfl) (fun vs H Q E h => ?_) (fun f cdv A outer s H vs Q E hr h => ?_)
  · obtain ⟨F, hl, pl, f, o, S, ps, R, rfl, _⟩ := h
    rfl
  · obtain ⟨Fa, hl, pl, fr, o, S, ps, R, rfl, hf, ho, h96, ok, hh, hpos, q1⟩ := h
    refine ⟨_, (pss_cons (ps_expr (C8.pe_mt c_Frames__ask_frame hr (by first | decide | omega) (pv 0) (pa_cons (pv 1) pa_nil)))
  (pss_cons (ps_expr (C8.pe_c c_ask_range hr (by first | decide | omega) rfl (pa_cons pe_str (pa_cons (pv 2) (pa_cons pe_int (pa_cons pe_int pa_nil))))))
  (pss_cons (ps_expr (C8.pe_mt c_Frames__ask_used hr (by first | decide | omega) (pv 0) (pa_cons (pv 1) pa_nil)))
  (pss_one (ps_ret (pe_ix ix_list (pe_ix ix_list (pe_fld (pv 0) rfl) (pv 1) (fun _ _ => rfl)) (pv 2) (fun _ _ => rfl))))))), ?_⟩
    have hc := L.cl
    have nh := L.nh
    have np := L.np
    have h0 : Hd H (frI Fa C hl pl :: lstC hl ((hsI S).map V.int) :: lstC pl (ps.map pgV) :: (pgC ps ++ R)) := hh
    obtain ⟨dx, hi⟩ := h0.ins (List.mem_cons_self ..)
    have hn := h0.lst (a := hl) (by walk_at "mem")
    have hz := hsI_at hf
    have hlen := hsI_len (S := S)
    have hpl : (ps.map pgV).length = ps.length := List.length_map ..
    walk_at "gs"
    refine ⟨Fa, hl, pl, hsI S, fr, rfl, ⟨dx, hi⟩, hn, by rw [hsI_len]; exact hf, ?_⟩
    walk_at "gs"
    refine u_ask ⟨by omega, by omega⟩ ?_
    walk_at "gs"
    refine ⟨Fa, hl, pl, hsI S, fr, _, rfl, by omega, ⟨dx, hi⟩, hn, hz, by omega, ?_⟩
    obtain ⟨h8, a, hpg⟩ := ok.2 fr hf hpos
    have hpv : (ps.map pgV)[fr]? = some (.ref a) := by rw [List.getElem?_map, hpg]; rfl
    have hpm : lstC a ((wat S fr).map V.int) ∈ frI Fa C hl pl :: lstC hl ((hsI S).map V.int) :: lstC pl (ps.map pgV) :: (pgC ps ++ R) := List.mem_cons_of_mem _ (List.mem_cons_of_mem _ (List.mem_cons_of_mem _ (List.mem_append_left _ (pgC_mem hpg))))
    walk_at "gs"
    rename_i z hz2
    obtain rfl : z = (wat S fr).getD o 0 := by rw [List.getD_eq_getElem?_getD, hz2]; rfl
    exact q1 H hh
theorem s_page (T : Txt K mg aREG aOPS) (L : FrC K C) (d : MetAt K C "page" "Frames.page" s_Frames__page) (c_Frames__ask_frame : C8.Met P w K mg base 4 C "_ask_frame" (sp_askF C) []) (c_Frames__ask_used : C8.Met P w K mg base 1 C "_ask_used" (sp_used C) []) : C8.Met P w K mg base 5 C "page" (sp_page C) [] := by
  refine mkM d sc_Frames__page (fun _ _ _ _ _ _ us hl => match us, hl with | [_, _], _ => rfl) (fun vs H Q E h => ?_) (fun f cdv A outer s H vs Q E hr h => ?_)
  · obtain ⟨F, hl, pl, f, S, ps, R, rfl, _⟩ := h
    rfl
  · obtain ⟨Fa, hl, pl, fr, S, ps, R, rfl, hf, h96, ok, hh, hpos, q1⟩ := h
    refine ⟨_, (pss_cons (ps_expr (C8.pe_mt c_Frames__ask_frame hr (by first | decide | omega) (pv 0) (pa_cons (pv 1) pa_nil)))
  (pss_cons (ps_expr (C8.pe_mt c_Frames__ask_used hr (by first | decide | omega) (pv 0) (pa_cons (pv 1) pa_nil)))
  (pss_one (ps_ret (pe_callTy Wk.b_list (by rfl) T.b_list (by decide +kernel) (pa_cons (pe_ix ix_list (pe_fld (pv 0) rfl) (pv 1) (fun _ _ => rfl)) pa_nil)))))), ?_⟩
    have hc := L.cl
    have nh := L.nh
    have np := L.np
    have h0 : Hd H (frI Fa C hl pl :: lstC hl ((hsI S).map V.int) :: lstC pl (ps.map pgV) :: (pgC ps ++ R)) := hh
    obtain ⟨dx, hi⟩ := h0.ins (List.mem_cons_self ..)
    have hn := h0.lst (a := hl) (by walk_at "mem")
    have hz := hsI_at hf
    have hlen := hsI_len (S := S)
    have hpl : (ps.map pgV).length = ps.length := List.length_map ..
    walk_at "gs"
    refine ⟨Fa, hl, pl, hsI S, fr, rfl, ⟨dx, hi⟩, hn, by rw [hsI_len]; exact hf, ?_⟩
    walk_at "gs"
    refine ⟨Fa, hl, pl, hsI S, fr, _, rfl, by omega, ⟨dx, hi⟩, hn, hz, by omega, ?_⟩
    obtain ⟨h8, a, hpg⟩ := ok.2 fr hf hpos
    have hpv : (ps.map pgV)[fr]? = some (.ref a) := by rw [List.getElem?_map, hpg]; rfl
    have hpm : lstC a ((wat S fr).map V.int) ∈ frI Fa C hl pl :: lstC hl ((hsI S).map V.int) :: lstC pl (ps.map pgV) :: (pgC ps ++ R) := List.mem_cons_of_mem _ (List.mem_cons_of_mem _ (List.mem_cons_of_mem _ (List.mem_append_left _ (pgC_mem hpg))))
    walk_at "gs"
    rename_i p H2 h2
    exact q1 p H2 h2
theorem s_holds (T : Txt K mg aREG aOPS) (L : FrC K C) (d : MetAt K C "holds" "Frames.holds" s_Frames__holds) (c_Frames__ask_frame : C8.Met P w K mg base 4 C "_ask_frame" (sp_askF C) []) : C8.Met P w K mg base 5 C "holds" (sp_holds C) [] := by
  refine mkM d sc_Frames__holds (fun _ _ _ _ _ _ us hl => match us, hl with | [_, _], _ => rfl) (fun vs H Q E h => ?_) (fun f cdv A outer s H vs Q E hr h => ?_)
  · obtain ⟨F, hl, pl, f, S, ps, R, rfl, _⟩ := h
    rfl
  · obtain ⟨Fa, hl, pl, fr, S, ps, R, rfl, hf, h96, hh, q1⟩ := h
    refine ⟨_, (pss_cons (ps_expr (C8.pe_mt c_Frames__ask_frame hr (by first | decide | omega) (pv 0) (pa_cons (pv 1) pa_nil)))
  (pss_one (ps_ret (pe_ix ix_list (pe_fld (pv 0) rfl) (pv 1) (fun _ _ => rfl))))), ?_⟩
    have hc := L.cl
    have nh := L.nh
    have np := L.np
    have h0 : Hd H (frI Fa C hl pl :: lstC hl ((hsI S).map V.int) :: lstC pl (ps.map pgV) :: (pgC ps ++ R)) := hh
    obtain ⟨dx, hi⟩ := h0.ins (List.mem_cons_self ..)
    have hn := h0.lst (a := hl) (by walk_at "mem")
    have hz := hsI_at hf
    have hlen := hsI_len (S := S)
    have hpl : (ps.map pgV).length = ps.length := List.length_map ..
    walk_at "gs"
    refine ⟨Fa, hl, pl, hsI S, fr, rfl, ⟨dx, hi⟩, hn, by rw [hsI_len]; exact hf, ?_⟩
    walk_at "gs"
    rename_i z hz2
    obtain rfl : z = (hat S fr : Int) := by
      rw [hz] at hz2
      exact (Option.some.inj hz2).symm
    exact q1
theorem s_poke (T : Txt K mg aREG aOPS) (L : FrC K C) (d : MetAt K C "poke" "Frames.poke" s_Frames__poke) (c_Frames__ask_frame : C8.Met P w K mg base 4 C "_ask_frame" (sp_askF C) []) (c_ask_range : C8.Cal P w K mg base 3 "ask_range" (sp_ask K) []) (c_ask_word : C8.Cal P w K mg base 4 "ask_word" (sp_askW K) []) (c_Frames__ask_used : C8.Met P w K mg base 1 C "_ask_used" (sp_used C) []) : C8.Met P w K mg base 5 C "poke" (sp_poke C) [] := by
  refine mkM d sc_Frames__poke (fun _ _ _ _ _ _ us hl => match us, hl with | [_, _, _, _], _ => rfl) (fun vs H Q E h => ?_) (fun f cdv A outer s H vs Q E hr h => ?_)
  · obtain ⟨F, hl, pl, f, o, x, S, ps, R, rfl, _⟩ := h
    rfl
  · obtain ⟨Fa, hl, pl, fr, o, x, S, ps, R, rfl, hf, ho, hx0, hx1, h96, ok, hh, h1t, q1⟩ := h
    refine ⟨_, (pss_cons (ps_expr (C8.pe_mt c_Frames__ask_frame hr (by first | decide | omega) (pv 0) (pa_cons (pv 1) pa_nil)))
  (pss_cons (ps_expr (C8.pe_c c_ask_range hr (by first | decide | omega) rfl (pa_cons pe_str (pa_cons (pv 2) (pa_cons pe_int (pa_cons pe_int pa_nil))))))
  (pss_cons (ps_expr (C8.pe_c c_ask_word hr (by first | decide | omega) rfl (pa_cons pe_str (pa_cons (pv 3) pa_nil))))
  (pss_cons (ps_expr (C8.pe_mt c_Frames__ask_used hr (by first | decide | omega) (pv 0) (pa_cons (pv 1) pa_nil)))
  (pss_cons (ps_if (pt_cmpR op_gt (pe_ix ix_list (pe_fld (pv 0) rfl) (pv 1) (fun _ _ => rfl)) pe_int (nomark _))
    (pss_one ps_never)
    pss_nil)
  (pss_one (ps_asg (pv 3) (pg_sub (pe_ix ix_list (pe_fld (pv 0) rfl) (pv 1) (fun _ _ => rfl)) (pv 2) set_list)))))))), ?_⟩
    have hc := L.cl
    have nh := L.nh
    have np := L.np
    have h0 : Hd H (frI Fa C hl pl :: lstC hl ((hsI S).map V.int) :: lstC pl (ps.map pgV) :: (pgC ps ++ R)) := hh
    obtain ⟨dx, hi⟩ := h0.ins (List.mem_cons_self ..)
    have hn := h0.lst (a := hl) (by walk_at "mem")
    have hz := hsI_at hf
    have hlen := hsI_len (S := S)
    have hpl : (ps.map pgV).length = ps.length := List.length_map ..
    walk_at "gs"
    refine ⟨Fa, hl, pl, hsI S, fr, rfl, ⟨dx, hi⟩, hn, by rw [hsI_len]; exact hf, ?_⟩
    walk_at "gs"
    refine u_ask ⟨by omega, by omega⟩ ?_
    walk_at "gs"
    refine u_askW ⟨hx0, hx1⟩ ?_
    walk_at "gs"
    refine ⟨Fa, hl, pl, hsI S, fr, _, rfl, by omega, ⟨dx, hi⟩, hn, hz, by omega, ?_⟩
    have hpos : 0 < hat S fr := by omega
    obtain ⟨h8, a, hpg⟩ := ok.2 fr hf hpos
    have hpv : (ps.map pgV)[fr]? = some (.ref a) := by rw [List.getElem?_map, hpg]; rfl
    have hpm : lstC a ((wat S fr).map V.int) ∈ frI Fa C hl pl :: lstC hl ((hsI S).map V.int) :: lstC pl (ps.map pgV) :: (pgC ps ++ R) := List.mem_cons_of_mem _ (List.mem_cons_of_mem _ (List.mem_cons_of_mem _ (List.mem_append_left _ (pgC_mem hpg))))
    walk_at "gs"
    rename_i z hz2
    obtain rfl : z = (hat S fr : Int) := by
      rw [hz] at hz2
      exact (Option.some.inj hz2).symm
    refine w_iteF (by omega) ?_
    walk_at "gs"
    have h1 : Hd H (lstC a ((wat S fr).map V.int) :: (pgC (ps.set fr none) ++ (frI Fa C hl pl :: lstC hl ((hsI S).map V.int) :: lstC pl (ps.map pgV) :: R))) :=
      Hd.pgGet (R := frI Fa C hl pl :: lstC hl ((hsI S).map V.int) :: lstC pl (ps.map pgV) :: R) (Hd.sb h0 (by walk_at "sbx")) hpg
    walk_at "gs"
    rename_i H2 h2
    have hfp : fr < ps.length := by rw [ok.1]; exact hf
    have h3 := Hd.pgPut h2 hfp
    have e1 : hsI (S.set fr (hat S fr, (wat S fr).set o x)) = hsI S := by
      rw [← hsI_set]
      exact set_self hz
    have e2 : (ps.set fr (some (a, (wat S fr).set o x))).map pgV = ps.map pgV := by
      rw [List.map_set]
      exact set_self hpv
    refine q1 (ps.set fr (some (a, (wat S fr).set o x))) H2 (ok.page hf (by rw [List.length_set]; exact h8)) ?_
    unfold frL
    rw [e1, e2]
    exact Hd.sb h3 (by walk_at "sbx")
theorem fo_take {f : Addr} {fd : FuncData} (T : Txt K mg aREG aOPS) (L : FrC K C) (F : DefM K "take" "Frames.take" s_Frames__take [.non] f fd) (c_Frames_free : Prp P w K mg base 1 C "free" (sp_free C)) (c_ask_words : C8.Cal P w K mg base 6 "ask_words" (sp_askW8 K tP) []) : FnOk P w K mg base C8.CX0 7 f fd ["self", "words"] (sp_ftake C tP) := by
  refine FunD.ok F sc_Frames__take (fun vs H Q E h => ?_) (fun cdv A outer s H vs Q E hr h => ?_)
  · obtain ⟨F, hl, pl, v, wo, i, S, ps, R, rfl, _⟩ := h
    rfl
  · obtain ⟨Fa, hl, pl, v, wo, i, S, ps, R, rfl, h96, ok, hh, hv, hlo, q1⟩ := h
    suffices hs : ∃ t, PSs (cxOf C8.CX0 P w K mg base nm_Frames__take "Frames.take" (defScope s_Frames__take) f cdv A outer s H E).nox (defBody s_Frames__take) t ∧ t { nx := fun _ H' => Q .non H', rt := Q } (L2.start nm_Frames__take [.ref Fa, v]) H from let ⟨t, h1, h2⟩ := hs; ⟨t, h1.nox, h2⟩
    refine ⟨_, (C8.pss_cut (ps_if (pt_cmpR op_notN1 (pv 1) pe_non (nomark _))
    (pss_one (ps_expr (C8.pe_c c_ask_words hr (by first | decide | omega) rfl (pa_cons pe_str (pa_cons (pv 1) (pa_cons pe_int (pa_cons pe_int pa_nil)))))))
    pss_nil)
  (pss_cons (ps_set (i := 2) sc_Frames__take.nd rfl (Or.inl rfl) (Wk.pe_pr c_Frames_free hr (by first | decide | omega) (pv 0)))
  (pss_cons (ps_if (pt_not (pt_truth (pv 2) (by intro _; rfl)))
    (pss_one ps_never)
    pss_nil)
  (pss_cons (ps_set (i := 3) sc_Frames__take.nd rfl (Or.inl rfl) (pe_ix ix_list (pv 2) pe_int (fun _ _ => rfl)))
  (pss_cons (ps_asg (pe_ifExp (pt_cmpR op_isN1 (pv 1) pe_non (nomark _)) (pe_op op_rep (pe_lst (pa_cons pe_int pa_nil)) pe_int) (pe_callTy Wk.b_list (by rfl) T.b_list (by decide +kernel) (pa_cons (pv 1) pa_nil))) (pg_sub (pe_fld (pv 0) rfl) (pv 3) set_list))
  (pss_cons (ps_asg pe_int (pg_sub (pe_fld (pv 0) rfl) (pv 3) set_list))
  (pss_one (ps_ret (pv 3))))))))), ?_⟩
    have hc := L.cl
    have nh := L.nh
    have np := L.np
    have h0 : Hd H (tblC tP :: frI Fa C hl pl :: lstC hl ((hsI S).map V.int) :: lstC pl (ps.map pgV) :: (pgC ps ++ R)) := hh
    have hlen := hsI_len (S := S)
    have hpl : (ps.map pgV).length = ps.length := List.length_map ..
    have hps := ok.1
    refine w_cut (fun σ H => σ = L2.start nm_Frames__take [.ref Fa, v] ∧ Hd H (tblC tP :: frI Fa C hl pl :: lstC hl ((hsI S).map V.int) :: lstC pl (ps.map pgV) :: (pgC ps ++ R))) ?_ ?_
    · rcases hv with ⟨rfl, rfl⟩ | ⟨a, ws, rfl, rfl, h8, hw, mR⟩
      · walk_at "gs"
        exact ⟨rfl, h0⟩
      · walk_at "gs"
        refine ⟨"words", a, ws, rfl, h0.sqL (by walk_at "mem"), h8, hw, h0.tbl (by walk_at "mem"), fun H1 hT1 u1 => ?_⟩
        walk_at "gs"
        exact ⟨rfl, Hd.put (A := [tblC tP]) (B := [tblC tP]) h0 u1 (fun a ha => ha) (let ⟨ps, e, t⟩ := hT1; Hd.one (c := tblC tP) e ⟨ps, rfl, t⟩) fun c hc => .inl (List.mem_map_of_mem hc)⟩
    rintro σ H1 ⟨rfl, h1⟩
    clear h0 hh
    walk_at "gs"
    refine ⟨Fa, hl, pl, S, _, rfl, h96, by walk_at "mem", by walk_at "mem", h1, fun fp H2 h2 => ?_⟩
    walk_at "gs"
    have fin : ∀ {p : Nat} {ws : List Int} {H5 : Hp} {M : List Cell}, lowest S = some i → i < S.length → (wo.map Prod.snd).getD (List.replicate 8 0) = ws → ws.length = 8 → Hd H5 M → Sb (lstC hl (((hsI S).set i 1).map V.int) :: lstC pl ((ps.map pgV).set i (.ref p)) :: lstC p (ws.map V.int) :: tblC tP :: frI Fa C hl pl :: (pgC ps ++ R)) M → Q (.int i) H5 := by
      intro p ws H5 M hlo hi ew h8 h5 sb
      have h6 := Hd.pgNew (i := i) (a := p) (ws := ws) (ps := ps) (R := lstC hl (((hsI S).set i 1).map V.int) :: lstC pl ((ps.map pgV).set i (.ref p)) :: tblC tP :: frI Fa C hl pl :: R) (Hd.sb (h5.sb sb) (by walk_at "sbx")) (by omega)
      refine q1 (ps.set i (some (p, ws))) H5 (by rw [ew]; exact ok.page hi h8) ?_
      rw [ew]
      have e1 : (hsI S).set i 1 = hsI (S.set i (1, ws)) := hsI_set (h := 1)
      have e2 : (ps.map pgV).set i (.ref p) = (ps.set i (some (p, ws))).map pgV := by rw [List.map_set]; rfl
      rw [e1, e2] at h6
      exact (show Hd H5 (tblC tP :: frI Fa C hl pl :: lstC hl ((hsI (S.set i (1, ws))).map V.int) :: lstC pl ((ps.set i (some (p, ws))).map pgV) :: (pgC (ps.set i (some (p, ws))) ++ R)) from Hd.sb h6 (by walk_at "sbx"))
    obtain ⟨r, hr⟩ := frees_lowest hlo
    have hi := (lowest_some hlo).1
    refine ⟨true, .inl ⟨_, h2.sqL (List.mem_cons_self ..), by rw [hr]; rfl⟩, ?_⟩
    refine w_ntrue ?_
    walk_at "gs"
    refine w_ixL (v := .int (i : Int)) (h2.sqL (List.mem_cons_self ..)) (atI_nat (j := 0) (by rw [hr]; rfl)) ?_
    rcases hv with ⟨rfl, rfl⟩ | ⟨a, ws, rfl, rfl, h8, hw, mR⟩
    · walk_at "gs"
      rename_i p3 H3 h3
      refine g_rep h3 (by walk_at "mem") (by omega) (by omega) (by decide) fun p4 H4 h4 => ?_
      replace h4 : Hd H4 (lstC p4 ((List.replicate 8 (0 : Int)).map V.int) :: _) := h4
      walk_at "gs"
      rename_i H5 h5 H6 h6
      exact fin (p := p4) (ws := List.replicate 8 0) hlo hi rfl rfl h6 (by walk_at "sbx")
    · walk_at "gs"
      rename_i p4 H4 h4 H5 h5 H6 h6
      exact fin (p := p4) (ws := ws) hlo hi rfl h8 h6 (by walk_at "sbx")
section
variable {f : Addr} {fd : FuncData} (T : Txt K mg aREG aOPS) (L : FrC K C) (F : DefM K "take" "Frames.take" s_Frames__take [.non] f fd) (hm : Meth K C "take" f) (c_Frames_free : Prp P w K mg base 1 C "free" (sp_free C)) (c_ask_words : C8.Cal P w K mg base 6 "ask_words" (sp_askW8 K tP) [])
include T L F hm c_Frames_free c_ask_words
theorem c_take1 : C8.Met P w K mg base 7 C "take" (sp_ftake C tP) [.non] := by
  obtain ⟨ds, r, b⟩ := F.binds1 (ps := ["self", "words"]) 1 0 (by simp) rfl fun T kV doc pm an cdv ct us its h1 h2 => match us, its, h1, h2 with | [_], [_], _, _ => ⟨_, rfl, rfl⟩
  exact ⟨f, fd, _, ds, L.cl, hm, fo_take T L F c_Frames_free c_ask_words, b, r⟩
theorem c_take2 : C8.Met P w K mg base 7 C "take" (sp_ftake C tP) [] := by
  obtain ⟨ds, r, b⟩ := F.binds1 (ps := ["self", "words"]) 2 1 (by simp) rfl fun T kV doc pm an cdv ct us its h1 h2 => match us, its, h1, h2 with | [_, _], [_], _, _ => ⟨_, rfl, rfl⟩
  exact ⟨f, fd, _, ds, L.cl, hm, fo_take T L F c_Frames_free c_ask_words, b, r⟩
end
end
end
end K05
set_option Elab.async false
set_option linter.all false
set_option maxRecDepth 100000
set_option maxHeartbeats 4000000
namespace K05
open PySem PySem.Spec PyProof.Rows L2 Wk
local macro_rules | `(tactic| walk_at "u1") => `(tactic| fail "no more")
local macro_rules | `(tactic| walk_at "pos") => `(tactic| first | assumption | omega | decide | (simp only [Int.ofNat_eq_natCast] at *; omega))
local macro_rules | `(tactic| walk_at "sz") => `(tactic| first
  | (simp only [List.length_cons, List.length_nil]; decide)
  | exact Evl.sz_of (by omega)
  | exact Evl.sz_lt (by omega)
  | exact Evl.sz_of (by simp only [List.length_map, List.length_append, List.length_cons, List.length_nil, List.length_replicate]; omega)
  | exact Evl.sz_lt (by simp only [List.length_map, List.length_append, List.length_cons, List.length_nil, List.length_replicate]; omega))
local macro_rules | `(tactic| walk_at "cond") => `(tactic| first
  | exact Or.inr ⟨by decide, by decide⟩
  | (show (0 : Int) < _; first | decide | assumption | omega)
  | exact Or.inl ⟨by omega, by omega⟩
  | exact Or.inr ⟨by omega, by omega⟩
  | exact ⟨by decide, by decide, by decide⟩
  | exact log2_lt (by omega) (by omega)
  | exact ⟨by omega, by omega⟩)
local macro_rules | `(tactic| walk_at "ty") => `(tactic| first
  | exact ty_int | exact ty_bl | exact ty_str | exact ty_non
  | exact ty_L (by assumption) | exact ty_T (by assumption)
  | exact ty_L (SqL.of (by assumption)) | exact ty_T (SqT.of (by assumption)))
local macro_rules | `(tactic| walk_at "kit") => `(tactic| first
  | exact k_ii | exact k_ib | exact k_is | exact k_il | exact k_it
  | exact k_bb | exact k_bi | exact k_bs | exact k_bl | exact k_bt
  | exact k_ss | exact k_sb | exact k_si | exact k_sl | exact k_st
  | exact k_ll | exact k_lb | exact k_li | exact k_ls | exact k_lt
  | exact k_tt | exact k_tb | exact k_ti | exact k_ts | exact k_tl
  | exact k_nn | exact k_ni | exact k_ns | exact k_nl | exact k_nt)
local macro_rules | `(tactic| walk_at "s1") => `(tactic| first
  | with_reducible refine w_seq ?_
  | with_reducible refine w_set ?_
  | with_reducible refine w_op ?_
  | ((with_reducible refine' w_var ?h1 ?_); (case h1 => rfl))
  | with_reducible refine w_c ?_
  | with_reducible refine w_cb ?_
  | with_reducible refine w_cons ?_
  | with_reducible refine w_nil ?_
  | with_reducible refine w_I0 ?_
  | ((with_reducible refine' w_I ?c1 ?_); case c1 => walk_at "cond")
  | with_reducible refine w_ret ?_
  | with_reducible refine w_next ?_
  | with_reducible refine w_ifS ?_
  | with_reducible refine w_test ?_
  | with_reducible refine w_tB ?_
  | with_reducible refine w_k ?_
  | with_reducible refine w_eqI ?_
  | with_reducible refine w_neI ?_
  | with_reducible refine w_eqS ?_
  | with_reducible refine w_neS ?_
  | with_reducible refine w_and ?_
  | with_reducible refine w_or ?_
  | with_reducible refine w_not ?_
  | with_reducible refine w_andV ?_
  | with_reducible refine w_orV ?_
  | with_reducible refine w_notV ?_
  | with_reducible refine w_ifE ?_
  | with_reducible refine w_true ?_
  | with_reducible refine w_false ?_
  | with_reducible refine w_ntrue ?_
  | with_reducible refine w_nfalse ?_
  | with_reducible refine w_call ?_
  | with_reducible refine c_int ?_
  | with_reducible refine c_abs ?_
  | with_reducible refine c_max ?_
  | with_reducible refine c_min ?_
  | with_reducible refine w_drop ?_
  | with_reducible refine w_sfld ?_
  | with_reducible refine w_meth ?_
  | with_reducible refine w_make ?_
  | with_reducible refine w_prop ?_
  | with_reducible refine w_callK ?_
  | with_reducible refine w_callN ?_
  | with_reducible refine w_star ?_
  | with_reducible refine w_gcons ?_
  | with_reducible refine w_gname ?_
  | with_reducible refine w_gnil ?_
  | with_reducible refine w_retN ?_
  | with_reducible refine w_tup ?_
  | with_reducible refine w_lst ?_
  | with_reducible refine w_fld ?_
  | with_reducible refine w_bm ?_
  | with_reducible refine w_bm0 ?_
  | with_reducible refine w_forL ?_
  | with_reducible refine w_forT ?_
  | with_reducible refine w_forS ?_
  | with_reducible refine w_forR ?_
  | with_reducible refine w_lcR ?_
  | with_reducible refine w_lcL ?_
  | with_reducible refine w_lcT ?_
  | with_reducible refine w_isN ?_
  | with_reducible refine w_notN ?_
  | with_reducible refine w_asg ?_
  | with_reducible refine w_gsub ?_
  | ((with_reducible refine' w_aug ?h1 ?_); (case h1 => rfl))
  | with_reducible refine w_augS ?_
  | with_reducible refine w_ipI ?_
  | with_reducible refine w_un ?_
  | with_reducible refine w_U ?_
  | ((with_reducible refine' w_iteF ?f1 ?_); case f1 => (first | (intro h; cases h; done) | decide))
  | ((with_reducible refine' w_iteT ?f1 ?_); case f1 => rfl)
  | ((with_reducible refine' w_iteNF ?f1 ?_); case f1 => rfl)
  | ((with_reducible refine' w_iteNT ?f1 ?_); case f1 => (first | (intro h; cases h; done) | decide))
  | ((with_reducible refine' c_isi ?t1 ?k1 ?_); (case t1 => walk_at "ty"); (case k1 => walk_at "kit"))
  | ((with_reducible refine' w_eq ?e1 ?_); case e1 => rfl)
  | ((with_reducible refine' w_ne ?e1 ?_); case e1 => rfl)
  | walk_at "u1")
local macro_rules | `(tactic| walk_at "s") => `(tactic| repeat walk_at "s1")
local macro_rules | `(tactic| walk_at "mem") => `(tactic| first | with_reducible exact List.mem_cons_self .. | ((with_reducible refine' List.mem_cons_of_mem _ ?q); (case q => walk_at "mem")) | assumption | ((with_reducible refine' List.mem_append_right _ ?q); (case q => walk_at "mem")) | (exact List.mem_append_left _ (by assumption)))
local macro_rules | `(tactic| walk_at "pk") => `(tactic| first | with_reducible exact Pk.here | ((with_reducible refine' Pk.there ?q); (case q => walk_at "pk")) | ((with_reducible refine' Pk.app ?q); (case q => walk_at "pk")))
local macro_rules | `(tactic| walk_at "pkb") => `(tactic| first | with_reducible exact PkB.here | ((with_reducible refine' PkB.there ?q); (case q => walk_at "pkb")) | ((with_reducible refine' PkB.app ?q); (case q => walk_at "pkb")))
local macro_rules | `(tactic| walk_at "spl") => `(tactic| first | with_reducible exact Spl.nil | ((with_reducible refine' Spl.cons ?h ?t); (case h => walk_at "pk"); (case t => walk_at "spl")) | ((with_reducible refine' Spl.blk ?h ?t); (case h => walk_at "pkb"); (case t => walk_at "spl")))
local macro_rules | `(tactic| walk_at "sbx") => `(tactic| first | with_reducible exact Sb.refl | with_reducible exact Sb.nil | with_reducible exact Sb.left | ((with_reducible refine' Sb.cons ?h ?t); (case h => walk_at "pk"); (case t => walk_at "sbx")) | ((with_reducible refine' Sb.blk ?h ?t); (case h => walk_at "pkb"); (case t => walk_at "sbx")) | ((with_reducible refine' Sb.drop ?q); (case q => walk_at "sbx")) | ((with_reducible refine' Sb.right ?q); (case q => walk_at "sbx")))
local macro_rules | `(tactic| walk_at "hd") => `(tactic| first | assumption | exact Hd.sb (by assumption) (by walk_at "sbx"))
local macro_rules | `(tactic| walk_at "sq") => `(tactic| first
  | assumption
  | exact Hd.sqL (by assumption) (by walk_at "mem")
  | exact Hd.sqT (by assumption) (by walk_at "mem")
  | exact Hd.sqF (by assumption) (by walk_at "mem")
  | (refine .inl ?_; walk_at "sq")
  | (refine .inr ?_; walk_at "sq"))
local macro_rules | `(tactic| walk_at "at") => `(tactic| first | rfl | assumption | exact atI_nat (by assumption))
local macro_rules | `(tactic| walk_at "dn1") => `(tactic| first
  | exact Dn.int | exact Dn.str | exact Dn.non | exact Dn.bl | assumption
  | ((refine' Dn.tp ?a1 ?m1 ?l1 ?p1); (case a1 => assumption); (case m1 => walk_at "mem"); (case l1 => (simp only [List.length_cons, List.length_nil]; omega)); (case p1 => walk_at "dns"))
  | ((refine' Dn.lt ?a1 ?m1 ?l1 ?p1); (case a1 => assumption); (case m1 => walk_at "mem"); (case l1 => (simp only [List.length_cons, List.length_nil]; omega)); (case p1 => walk_at "dns")))
local macro_rules | `(tactic| walk_at "dns") => `(tactic| first | exact Paired.nil | exact Dn.ints | ((refine' Paired.cons ?a1 ?b1); (case a1 => walk_at "dn1"); (case b1 => walk_at "dns")))
local macro_rules | `(tactic| walk_at "g1") => `(tactic| first
  | ((with_reducible refine' g_ixI ?h1 ?h2 ?h3 ?_); (case h1 => assumption); (case h2 => walk_at "mem"); (case h3 => omega); intro z hz)
  | ((with_reducible refine' g_ixIT ?h1 ?h2 ?h3 ?_); (case h1 => assumption); (case h2 => walk_at "mem"); (case h3 => omega); intro z hz)
  | ((with_reducible refine' g_setI ?h1 ?h2 ?h3 ?_); (case h1 => assumption); (case h2 => walk_at "pk"); (case h3 => omega); intro H2 hh2)
  | ((with_reducible refine' w_ixL ?h1 ?h2 ?_); (case h1 => walk_at "sq"); (case h2 => walk_at "at"))
  | ((with_reducible refine' w_ixT ?h1 ?h2 ?_); (case h1 => walk_at "sq"); (case h2 => walk_at "at"))
  | ((with_reducible refine' w_ixAny ?h1 ?h2 ?_); (case h1 => walk_at "sq"); (case h2 => walk_at "at"))
  | ((with_reducible refine' c_lenA ?h1 ?_); (case h1 => walk_at "sq"))
  | ((with_reducible refine' c_isi ?t1 ?k1 ?_); (case t1 => first | exact ty_T (by walk_at "sq") | exact ty_L (by walk_at "sq")); (case k1 => walk_at "kit"))
  | ((with_reducible refine' g_lst ?h1 ?h2 ?_); (case h1 => assumption); (case h2 => walk_at "sz"); intro p H2 hh2)
  | ((with_reducible refine' g_tup ?h1 ?h2 ?_); (case h1 => assumption); (case h2 => walk_at "sz"); intro p H2 hh2)
  | ((with_reducible refine' g_dict ?h1 ?_); (case h1 => assumption); intro p H2 hh2)
  | ((with_reducible refine' g_listL ?h1 ?h2 ?_); (case h1 => assumption); (case h2 => walk_at "sq"); intro p H2 hh2)
  | ((with_reducible refine' g_listT ?h1 ?h2 ?_); (case h1 => assumption); (case h2 => walk_at "sq"); intro p H2 hh2)
  | ((with_reducible refine' g_tupL ?h1 ?h2 ?_); (case h1 => assumption); (case h2 => walk_at "sq"); intro p H2 hh2)
  | ((with_reducible refine' g_set ?h1 ?h2 ?h3 ?_); (case h1 => assumption); (case h2 => walk_at "pk"); (case h3 => first | rfl | assumption | exact Evl.ixN_nat (by first | omega | (simp only [List.length_cons, List.length_nil]; omega))); intro H2 hh2)
  | ((with_reducible refine' g_kbm ?h1 ?h2 ?_); (case h1 => assumption); (case h2 => walk_at "mem"))
  | ((with_reducible refine' g_kbm0 ?h1 ?h2 ?_); (case h1 => assumption); (case h2 => walk_at "mem"))
  | ((with_reducible refine' g_app ?h1 ?h2 ?h3 ?_); (case h1 => assumption); (case h2 => walk_at "pk"); (case h3 => walk_at "sz"); intro H2 hh2)
  | ((with_reducible refine' g_kapp ?h1 ?h2 ?h3 ?_); (case h1 => assumption); (case h2 => walk_at "pk"); (case h3 => walk_at "sz"); intro H2 hh2)
  | ((with_reducible refine' g_fld ?h1 ?h2 ?h3 ?h4 ?h5 ?_); (case h1 => assumption); (case h2 => walk_at "mem"); (case h3 => assumption); (case h4 => assumption); (case h5 => rfl))
  | ((with_reducible refine' g_sfld ?h1 ?h2 ?h3 ?h4 ?h5 ?_); (case h1 => assumption); (case h2 => walk_at "pk"); (case h3 => assumption); (case h4 => assumption); (case h5 => decide); intro H2 hh2)
  | ((with_reducible refine' g_meth ?h1 ?h2 ?h3 ?_); (case h1 => assumption); (case h2 => walk_at "mem"); (case h3 => rfl))
  | ((with_reducible refine' g_prop ?h1 ?h2 ?_); (case h1 => assumption); (case h2 => walk_at "mem"))
  | ((with_reducible refine' g_make ?h1 ?_); (case h1 => assumption); intro x H2 hh2)
  | ((with_reducible refine' g_cat ?h1 ?h2 ?h3 ?h4 ?_); (case h1 => assumption); (case h2 => walk_at "mem"); (case h3 => walk_at "mem"); (case h4 => walk_at "sz"); intro p H2 hh2)
  | ((with_reducible refine' g_inT ?h1 ?h2 ?h3 ?h4 ?h5 ?_); (case h1 => assumption); (case h2 => walk_at "mem"); (case h3 => rfl); (case h4 => rfl); (case h5 => rfl)))
local macro_rules | `(tactic| walk_at "gs") => `(tactic| repeat first | walk_at "s1" | walk_at "g1")
local macro_rules | `(tactic| walk_at "ite") => `(tactic| first
  | ((with_reducible refine' w_iteT ?h1 ?_); (case h1 => omega))
  | ((with_reducible refine' w_iteF ?h1 ?_); (case h1 => omega))
  | (with_reducible refine w_ite ?_ ?_ <;> intro hq)
  | ((with_reducible refine' w_iteNT ?h1 ?_); (case h1 => omega))
  | ((with_reducible refine' w_iteNF ?h1 ?_); (case h1 => omega))
  | (with_reducible refine w_iteN ?_ ?_ <;> intro hq))
local macro_rules | `(tactic| walk_at "go") => `(tactic| repeat' first | walk_at "s1" | walk_at "g1" | walk_at "ite")
local macro_rules | `(tactic| walk_at "g1") => `(tactic| first
  | ((with_reducible refine' g_take1 ?h1 ?h2 ?h3 ?h4 ?_); (case h1 => assumption); (case h2 => walk_at "spl"); (case h3 => omega); (case h4 => omega); intro k H2 hk1 hh2)
  | ((with_reducible refine' g_take ?h1 ?h2 ?h4 ?_); (case h1 => assumption); (case h2 => walk_at "spl"); (case h4 => omega); intro k H2 hk1 hh2)
  | ((with_reducible refine' g_betweenN ?h1 ?h2 ?h5 ?h3 ?h4 ?_); (case h1 => assumption); (case h2 => walk_at "spl"); (case h5 => omega); (case h3 => omega); (case h4 => omega); intro k H2 hk1 hk2 hh2)
  | ((with_reducible refine' g_between ?h1 ?h2 ?h3 ?h4 ?_); (case h1 => assumption); (case h2 => walk_at "spl"); (case h3 => omega); (case h4 => omega); intro k H2 hk1 hk2 hh2)
  | ((with_reducible refine' g_size ?h1 ?h2 ?h3 ?h4 ?_); (case h1 => assumption); (case h2 => walk_at "spl"); (case h3 => omega); (case h4 => omega); intro k H2 hk1 hh2)
  | ((with_reducible refine' g_word ?h1 ?h2 ?_); (case h1 => assumption); (case h2 => walk_at "spl"); intro k H2 hk1 hh2))
section
variable {P : Program} {w : World} {K : PySem.W.Frag} {mg : Str → Option Value} {base : Heap} {aREG aOPS : Addr}
abbrev Tb := List (Option Nat)
def tV : Option Nat → V
  | none => .non
  | some f => .int f
abbrev tbV (T : Tb) : List V := T.map tV
def pgW (S : St1) : Option Nat → List Int
  | none => List.replicate 8 0
  | some f => wat S f
def valS (S : St1) (T : Tb) : List Int := (T.map (pgW S)).flatten
def valAt (S : St1) (T : Tb) (a : Nat) : Int := (pgW S (T.getD (a / 8) none)).getD (a % 8) 0
def WdR (l : List Int) : Prop := ∀ x ∈ l, (0 : Int) ≤ x ∧ x ≤ 65535
structure FOk (S : St1) (ps : List Pg) : Prop where
  l : S.length ≤ 96
  pg : PgOk S ps
  w : ∀ f, f < S.length → 0 < hat S f → WdR (wat S f)
structure TOk (S : St1) (T : Tb) : Prop where
  n1 : 1 ≤ T.length
  n16 : T.length ≤ 16
  e : ∀ f, some f ∈ T → f < S.length ∧ 0 < hat S f
theorem tb_at {T : Tb} {p : Nat} (h : p < T.length) : (tbV T)[p]? = some (tV (T.getD p none)) := by
  rw [List.getElem?_map, List.getD_eq_getElem?_getD, List.getElem?_eq_getElem h]; rfl
theorem tb_mem {T : Tb} {p f : Nat} (h : T.getD p none = some f) : some f ∈ T := by
  rw [List.getD_eq_getElem?_getD] at h
  cases e : T[p]? with
  | none => rw [e] at h; cases h
  | some o => rw [e] at h; rw [show o = some f from h] at e; exact List.mem_of_getElem? e
/-- the page's own frame: which, the frames and the table behind it -/
def ownS (S : St1) (T : Tb) (p : Nat) : Nat × St1 × Tb := match T.getD p none with
  | some f => if hat S f = 1 then (f, S, T) else ((lowest S).getD 0, (S.set ((lowest S).getD 0) (1, wat S f)).set f (hat S f - 1, wat S f), T.set p (some ((lowest S).getD 0)))
  | none => ((lowest S).getD 0, S.set ((lowest S).getD 0) (1, List.replicate 8 0), T.set p (some ((lowest S).getD 0)))
def wrS (S : St1) (T : Tb) (a : Nat) (x : Int) : St1 × Tb := ((ownS S T (a / 8)).2.1.set (ownS S T (a / 8)).1 (hat (ownS S T (a / 8)).2.1 (ownS S T (a / 8)).1, (wat (ownS S T (a / 8)).2.1 (ownS S T (a / 8)).1).set (a % 8) x), (ownS S T (a / 8)).2.2)
/-- a free frame is there where one is wanted -/
def Room1 (S : St1) (T : Tb) (p : Nat) : Prop := (∃ f, T.getD p none = some f ∧ hat S f = 1) ∨ ∃ i, lowest S = some i
theorem FOk.set {S : St1} {ps ps' : List Pg} {f h : Nat} {ws : List Int} (k : FOk S ps) (hf : f < S.length) (hw : WdR ws) (o : PgOk (S.set f (h, ws)) ps') : FOk (S.set f (h, ws)) ps' := by
  refine ⟨by rw [List.length_set]; exact k.l, o, fun g hg h1 => ?_⟩
  rw [List.length_set] at hg
  rw [hat_set hf] at h1
  rw [wat_set hf]
  by_cases e : g = f
  · rw [if_pos e]; exact hw
  · rw [if_neg e] at h1 ⊢; exact k.w g hg h1
theorem own_ok {S : St1} {T : Tb} {p : Nat} {ps : List Pg} (k : FOk S ps) (t : TOk S T) (hp : p < T.length) (rm : Room1 S T p) : (ownS S T p).1 < S.length ∧ hat (ownS S T p).2.1 (ownS S T p).1 = 1 ∧ (ownS S T p).2.1.length = S.length ∧ (ownS S T p).2.2.length = T.length ∧ (ownS S T p).2.2.getD p none = some (ownS S T p).1 ∧ wat (ownS S T p).2.1 (ownS S T p).1 = pgW S (T.getD p none) := by
  have gs : ∀ i : Nat, (T.set p (some i)).getD p none = some i := fun i => by
    rw [List.getD_eq_getElem?_getD, List.getElem?_set_self hp]; rfl
  unfold ownS
  cases e : T.getD p none with
  | none =>
    rcases rm with ⟨f, e2, _⟩ | ⟨i, hi⟩
    · rw [e] at e2; cases e2
    · obtain ⟨hil, h0, _⟩ := lowest_some hi
      simp only [hi, Option.getD_some]
      refine ⟨hil, ?_, List.length_set, List.length_set, gs i, ?_⟩
      · rw [hat_set hil, if_pos rfl]
      · rw [wat_set hil, if_pos rfl]; rfl
  | some f =>
    obtain ⟨hf, h0⟩ := t.e f (tb_mem e)
    dsimp only
    by_cases h1 : hat S f = 1
    · rw [if_pos h1]
      exact ⟨hf, h1, rfl, rfl, e, rfl⟩
    · rw [if_neg h1]
      rcases rm with ⟨f', e2, e3⟩ | ⟨i, hi⟩
      · rw [e] at e2; cases e2; exact absurd e3 h1
      · obtain ⟨hil, hi0, _⟩ := lowest_some hi
        have hne : i ≠ f := fun z => by rw [z] at hi0; omega
        simp only [hi, Option.getD_some]
        refine ⟨hil, ?_, by rw [List.length_set, List.length_set], List.length_set, gs i, ?_⟩
        · rw [hat_set (by rw [List.length_set]; exact hf), if_neg hne, hat_set hil, if_pos rfl]
        · rw [wat_set (by rw [List.length_set]; exact hf), if_neg hne, wat_set hil, if_pos rfl]; rfl
/-- where the frames are told -/
structure FA where
  (F hl pl : Addr)
def frB (C : Addr) (A : FA) (S : St1) (ps : List Pg) : List Cell := frL A.F C A.hl A.pl S ps []
theorem frB_app {C : Addr} {A : FA} {S : St1} {ps : List Pg} {R : List Cell} : frL A.F C A.hl A.pl S ps R = frB C A S ps ++ R := by
  unfold frB
  simp only [frL, List.cons_append, List.append_assoc, List.nil_append]
/-- all that a table holds, once more, or once less -/
def addT (S : St1) : Tb → St1
  | [] => S
  | none :: T => addT S T
  | some f :: T => addT (S.set f (hat S f + 1, wat S f)) T
def subT (S : St1) : Tb → St1
  | [] => S
  | none :: T => subT S T
  | some f :: T => subT (S.set f (hat S f - 1, wat S f)) T
theorem add_len : ∀ {T : Tb} {S : St1}, (addT S T).length = S.length
  | [], _ => rfl
  | none :: T, S => add_len (T := T)
  | some f :: T, S => (add_len (T := T)).trans List.length_set
theorem sub_len : ∀ {T : Tb} {S : St1}, (subT S T).length = S.length
  | [], _ => rfl
  | none :: T, S => sub_len (T := T)
  | some f :: T, S => (sub_len (T := T)).trans List.length_set
theorem add_at : ∀ {T : Tb} {S : St1}, (∀ f, some f ∈ T → f < S.length) → ∀ g, hat (addT S T) g = hat S g + T.count (some g) ∧ wat (addT S T) g = wat S g
  | [], S, _, g => ⟨by simp [addT], rfl⟩
  | none :: T, S, h, g => by
    obtain ⟨a, b⟩ := add_at (T := T) (S := S) (fun f hf => h f (.tail _ hf)) g
    refine ⟨?_, b⟩
    show hat (addT S T) g = _
    rw [a, List.count_cons_of_ne (by simp)]
  | some f :: T, S, h, g => by
    have hf := h f (.head _)
    obtain ⟨a, b⟩ := add_at (T := T) (S := S.set f (hat S f + 1, wat S f)) (fun f' hf' => by rw [List.length_set]; exact h f' (.tail _ hf')) g
    refine ⟨?_, ?_⟩
    · show hat (addT _ T) g = _
      rw [a, hat_set hf]
      by_cases e : g = f
      · subst e; rw [if_pos rfl, List.count_cons_self]; omega
      · rw [if_neg e, List.count_cons_of_ne (by simp; exact fun z => e z.symm)]
    · show wat (addT _ T) g = _
      rw [b, wat_set hf]
      by_cases e : g = f
      · subst e; rw [if_pos rfl]
      · rw [if_neg e]
theorem sub_at : ∀ {T : Tb} {S : St1}, (∀ f, some f ∈ T → f < S.length) → ∀ g, hat (subT S T) g = hat S g - T.count (some g) ∧ wat (subT S T) g = wat S g
  | [], S, _, g => ⟨by simp [subT], rfl⟩
  | none :: T, S, h, g => by
    obtain ⟨a, b⟩ := sub_at (T := T) (S := S) (fun f hf => h f (.tail _ hf)) g
    refine ⟨?_, b⟩
    show hat (subT S T) g = _
    rw [a, List.count_cons_of_ne (by simp)]
  | some f :: T, S, h, g => by
    have hf := h f (.head _)
    obtain ⟨a, b⟩ := sub_at (T := T) (S := S.set f (hat S f - 1, wat S f)) (fun f' hf' => by rw [List.length_set]; exact h f' (.tail _ hf')) g
    refine ⟨?_, ?_⟩
    · show hat (subT _ T) g = _
      rw [a, hat_set hf]
      by_cases e : g = f
      · subst e; rw [if_pos rfl, List.count_cons_self]; omega
      · rw [if_neg e, List.count_cons_of_ne (by simp; exact fun z => e z.symm)]
    · show wat (subT _ T) g = _
      rw [b, wat_set hf]
      by_cases e : g = f
      · subst e; rw [if_pos rfl]
      · rw [if_neg e]
end
end K05
set_option Elab.async false
set_option linter.all false
set_option maxRecDepth 100000
set_option maxHeartbeats 4000000
namespace K05
open PySem PySem.Spec PyProof.Rows L2 Wk
local macro_rules | `(tactic| walk_at "u1") => `(tactic| fail "no more")
local macro_rules | `(tactic| walk_at "pos") => `(tactic| first | assumption | omega | decide | (simp only [Int.ofNat_eq_natCast] at *; omega))
local macro_rules | `(tactic| walk_at "sz") => `(tactic| first
  | (simp only [List.length_cons, List.length_nil]; decide)
  | exact Evl.sz_of (by omega)
  | exact Evl.sz_lt (by omega)
  | exact Evl.sz_of (by simp only [List.length_map, List.length_append, List.length_cons, List.length_nil, List.length_replicate]; omega)
  | exact Evl.sz_lt (by simp only [List.length_map, List.length_append, List.length_cons, List.length_nil, List.length_replicate]; omega))
local macro_rules | `(tactic| walk_at "cond") => `(tactic| first
  | exact Or.inr ⟨by decide, by decide⟩
  | (show (0 : Int) < _; first | decide | assumption | omega)
  | exact Or.inl ⟨by omega, by omega⟩
  | exact Or.inr ⟨by omega, by omega⟩
  | exact ⟨by decide, by decide, by decide⟩
  | exact log2_lt (by omega) (by omega)
  | exact ⟨by omega, by omega⟩)
local macro_rules | `(tactic| walk_at "ty") => `(tactic| first
  | exact ty_int | exact ty_bl | exact ty_str | exact ty_non
  | exact ty_L (by assumption) | exact ty_T (by assumption)
  | exact ty_L (SqL.of (by assumption)) | exact ty_T (SqT.of (by assumption)))
local macro_rules | `(tactic| walk_at "kit") => `(tactic| first
  | exact k_ii | exact k_ib | exact k_is | exact k_il | exact k_it
  | exact k_bb | exact k_bi | exact k_bs | exact k_bl | exact k_bt
  | exact k_ss | exact k_sb | exact k_si | exact k_sl | exact k_st
  | exact k_ll | exact k_lb | exact k_li | exact k_ls | exact k_lt
  | exact k_tt | exact k_tb | exact k_ti | exact k_ts | exact k_tl
  | exact k_nn | exact k_ni | exact k_ns | exact k_nl | exact k_nt)
local macro_rules | `(tactic| walk_at "s1") => `(tactic| first
  | with_reducible refine w_seq ?_
  | with_reducible refine w_set ?_
  | with_reducible refine w_op ?_
  | ((with_reducible refine' w_var ?h1 ?_); (case h1 => rfl))
  | with_reducible refine w_c ?_
  | with_reducible refine w_cb ?_
  | with_reducible refine w_cons ?_
  | with_reducible refine w_nil ?_
  | with_reducible refine w_I0 ?_
  | ((with_reducible refine' w_I ?c1 ?_); case c1 => walk_at "cond")
  | with_reducible refine w_ret ?_
  | with_reducible refine w_next ?_
  | with_reducible refine w_ifS ?_
  | with_reducible refine w_test ?_
  | with_reducible refine w_tB ?_
  | with_reducible refine w_k ?_
  | with_reducible refine w_eqI ?_
  | with_reducible refine w_neI ?_
  | with_reducible refine w_eqS ?_
  | with_reducible refine w_neS ?_
  | with_reducible refine w_and ?_
  | with_reducible refine w_or ?_
  | with_reducible refine w_not ?_
  | with_reducible refine w_andV ?_
  | with_reducible refine w_orV ?_
  | with_reducible refine w_notV ?_
  | with_reducible refine w_ifE ?_
  | with_reducible refine w_true ?_
  | with_reducible refine w_false ?_
  | with_reducible refine w_ntrue ?_
  | with_reducible refine w_nfalse ?_
  | with_reducible refine w_call ?_
  | with_reducible refine c_int ?_
  | with_reducible refine c_abs ?_
  | with_reducible refine c_max ?_
  | with_reducible refine c_min ?_
  | with_reducible refine w_drop ?_
  | with_reducible refine w_sfld ?_
  | with_reducible refine w_meth ?_
  | with_reducible refine w_make ?_
  | with_reducible refine w_prop ?_
  | with_reducible refine w_callK ?_
  | with_reducible refine w_callN ?_
  | with_reducible refine w_star ?_
  | with_reducible refine w_gcons ?_
  | with_reducible refine w_gname ?_
  | with_reducible refine w_gnil ?_
  | with_reducible refine w_retN ?_
  | with_reducible refine w_tup ?_
  | with_reducible refine w_lst ?_
  | with_reducible refine w_fld ?_
  | with_reducible refine w_bm ?_
  | with_reducible refine w_bm0 ?_
  | with_reducible refine w_forL ?_
  | with_reducible refine w_forT ?_
  | with_reducible refine w_forS ?_
  | with_reducible refine w_forR ?_
  | with_reducible refine w_lcR ?_
  | with_reducible refine w_lcL ?_
  | with_reducible refine w_lcT ?_
  | with_reducible refine w_isN ?_
  | with_reducible refine w_notN ?_
  | with_reducible refine w_asg ?_
  | with_reducible refine w_gsub ?_
  | ((with_reducible refine' w_aug ?h1 ?_); (case h1 => rfl))
  | with_reducible refine w_augS ?_
  | with_reducible refine w_ipI ?_
  | with_reducible refine w_un ?_
  | with_reducible refine w_U ?_
  | ((with_reducible refine' w_iteF ?f1 ?_); case f1 => (first | (intro h; cases h; done) | decide))
  | ((with_reducible refine' w_iteT ?f1 ?_); case f1 => rfl)
  | ((with_reducible refine' w_iteNF ?f1 ?_); case f1 => rfl)
  | ((with_reducible refine' w_iteNT ?f1 ?_); case f1 => (first | (intro h; cases h; done) | decide))
  | ((with_reducible refine' c_isi ?t1 ?k1 ?_); (case t1 => walk_at "ty"); (case k1 => walk_at "kit"))
  | ((with_reducible refine' w_eq ?e1 ?_); case e1 => rfl)
  | ((with_reducible refine' w_ne ?e1 ?_); case e1 => rfl)
  | walk_at "u1")
local macro_rules | `(tactic| walk_at "s") => `(tactic| repeat walk_at "s1")
local macro_rules | `(tactic| walk_at "mem") => `(tactic| first | with_reducible exact List.mem_cons_self .. | ((with_reducible refine' List.mem_cons_of_mem _ ?q); (case q => walk_at "mem")) | assumption | ((with_reducible refine' List.mem_append_right _ ?q); (case q => walk_at "mem")) | (exact List.mem_append_left _ (by assumption)))
local macro_rules | `(tactic| walk_at "pk") => `(tactic| first | with_reducible exact Pk.here | ((with_reducible refine' Pk.there ?q); (case q => walk_at "pk")) | ((with_reducible refine' Pk.app ?q); (case q => walk_at "pk")))
local macro_rules | `(tactic| walk_at "pkb") => `(tactic| first | with_reducible exact PkB.here | ((with_reducible refine' PkB.there ?q); (case q => walk_at "pkb")) | ((with_reducible refine' PkB.app ?q); (case q => walk_at "pkb")))
local macro_rules | `(tactic| walk_at "spl") => `(tactic| first | with_reducible exact Spl.nil | ((with_reducible refine' Spl.cons ?h ?t); (case h => walk_at "pk"); (case t => walk_at "spl")) | ((with_reducible refine' Spl.blk ?h ?t); (case h => walk_at "pkb"); (case t => walk_at "spl")))
local macro_rules | `(tactic| walk_at "sbx") => `(tactic| first | with_reducible exact Sb.refl | with_reducible exact Sb.nil | with_reducible exact Sb.left | ((with_reducible refine' Sb.cons ?h ?t); (case h => walk_at "pk"); (case t => walk_at "sbx")) | ((with_reducible refine' Sb.blk ?h ?t); (case h => walk_at "pkb"); (case t => walk_at "sbx")) | ((with_reducible refine' Sb.drop ?q); (case q => walk_at "sbx")) | ((with_reducible refine' Sb.right ?q); (case q => walk_at "sbx")))
local macro_rules | `(tactic| walk_at "hd") => `(tactic| first | assumption | exact Hd.sb (by assumption) (by walk_at "sbx"))
local macro_rules | `(tactic| walk_at "sq") => `(tactic| first
  | assumption
  | exact Hd.sqL (by assumption) (by walk_at "mem")
  | exact Hd.sqT (by assumption) (by walk_at "mem")
  | exact Hd.sqF (by assumption) (by walk_at "mem")
  | (refine .inl ?_; walk_at "sq")
  | (refine .inr ?_; walk_at "sq"))
local macro_rules | `(tactic| walk_at "at") => `(tactic| first | rfl | assumption | exact atI_nat (by assumption))
local macro_rules | `(tactic| walk_at "dn1") => `(tactic| first
  | exact Dn.int | exact Dn.str | exact Dn.non | exact Dn.bl | assumption
  | ((refine' Dn.tp ?a1 ?m1 ?l1 ?p1); (case a1 => assumption); (case m1 => walk_at "mem"); (case l1 => (simp only [List.length_cons, List.length_nil]; omega)); (case p1 => walk_at "dns"))
  | ((refine' Dn.lt ?a1 ?m1 ?l1 ?p1); (case a1 => assumption); (case m1 => walk_at "mem"); (case l1 => (simp only [List.length_cons, List.length_nil]; omega)); (case p1 => walk_at "dns")))
local macro_rules | `(tactic| walk_at "dns") => `(tactic| first | exact Paired.nil | exact Dn.ints | ((refine' Paired.cons ?a1 ?b1); (case a1 => walk_at "dn1"); (case b1 => walk_at "dns")))
local macro_rules | `(tactic| walk_at "g1") => `(tactic| first
  | ((with_reducible refine' g_ixI ?h1 ?h2 ?h3 ?_); (case h1 => assumption); (case h2 => walk_at "mem"); (case h3 => omega); intro z hz)
  | ((with_reducible refine' g_ixIT ?h1 ?h2 ?h3 ?_); (case h1 => assumption); (case h2 => walk_at "mem"); (case h3 => omega); intro z hz)
  | ((with_reducible refine' g_setI ?h1 ?h2 ?h3 ?_); (case h1 => assumption); (case h2 => walk_at "pk"); (case h3 => omega); intro H2 hh2)
  | ((with_reducible refine' w_ixL ?h1 ?h2 ?_); (case h1 => walk_at "sq"); (case h2 => walk_at "at"))
  | ((with_reducible refine' w_ixT ?h1 ?h2 ?_); (case h1 => walk_at "sq"); (case h2 => walk_at "at"))
  | ((with_reducible refine' w_ixAny ?h1 ?h2 ?_); (case h1 => walk_at "sq"); (case h2 => walk_at "at"))
  | ((with_reducible refine' c_lenA ?h1 ?_); (case h1 => walk_at "sq"))
  | ((with_reducible refine' c_isi ?t1 ?k1 ?_); (case t1 => first | exact ty_T (by walk_at "sq") | exact ty_L (by walk_at "sq")); (case k1 => walk_at "kit"))
  | ((with_reducible refine' g_lst ?h1 ?h2 ?_); (case h1 => assumption); (case h2 => walk_at "sz"); intro p H2 hh2)
  | ((with_reducible refine' g_tup ?h1 ?h2 ?_); (case h1 => assumption); (case h2 => walk_at "sz"); intro p H2 hh2)
  | ((with_reducible refine' g_dict ?h1 ?_); (case h1 => assumption); intro p H2 hh2)
  | ((with_reducible refine' g_listL ?h1 ?h2 ?_); (case h1 => assumption); (case h2 => walk_at "sq"); intro p H2 hh2)
  | ((with_reducible refine' g_listT ?h1 ?h2 ?_); (case h1 => assumption); (case h2 => walk_at "sq"); intro p H2 hh2)
  | ((with_reducible refine' g_tupL ?h1 ?h2 ?_); (case h1 => assumption); (case h2 => walk_at "sq"); intro p H2 hh2)
  | ((with_reducible refine' g_set ?h1 ?h2 ?h3 ?_); (case h1 => assumption); (case h2 => walk_at "pk"); (case h3 => first | rfl | assumption | exact Evl.ixN_nat (by first | omega | (simp only [List.length_cons, List.length_nil]; omega))); intro H2 hh2)
  | ((with_reducible refine' g_kbm ?h1 ?h2 ?_); (case h1 => assumption); (case h2 => walk_at "mem"))
  | ((with_reducible refine' g_kbm0 ?h1 ?h2 ?_); (case h1 => assumption); (case h2 => walk_at "mem"))
  | ((with_reducible refine' g_app ?h1 ?h2 ?h3 ?_); (case h1 => assumption); (case h2 => walk_at "pk"); (case h3 => walk_at "sz"); intro H2 hh2)
  | ((with_reducible refine' g_kapp ?h1 ?h2 ?h3 ?_); (case h1 => assumption); (case h2 => walk_at "pk"); (case h3 => walk_at "sz"); intro H2 hh2)
  | ((with_reducible refine' g_fld ?h1 ?h2 ?h3 ?h4 ?h5 ?_); (case h1 => assumption); (case h2 => walk_at "mem"); (case h3 => assumption); (case h4 => assumption); (case h5 => rfl))
  | ((with_reducible refine' g_sfld ?h1 ?h2 ?h3 ?h4 ?h5 ?_); (case h1 => assumption); (case h2 => walk_at "pk"); (case h3 => assumption); (case h4 => assumption); (case h5 => decide); intro H2 hh2)
  | ((with_reducible refine' g_meth ?h1 ?h2 ?h3 ?_); (case h1 => assumption); (case h2 => walk_at "mem"); (case h3 => rfl))
  | ((with_reducible refine' g_prop ?h1 ?h2 ?_); (case h1 => assumption); (case h2 => walk_at "mem"))
  | ((with_reducible refine' g_make ?h1 ?_); (case h1 => assumption); intro x H2 hh2)
  | ((with_reducible refine' g_cat ?h1 ?h2 ?h3 ?h4 ?_); (case h1 => assumption); (case h2 => walk_at "mem"); (case h3 => walk_at "mem"); (case h4 => walk_at "sz"); intro p H2 hh2)
  | ((with_reducible refine' g_inT ?h1 ?h2 ?h3 ?h4 ?h5 ?_); (case h1 => assumption); (case h2 => walk_at "mem"); (case h3 => rfl); (case h4 => rfl); (case h5 => rfl)))
local macro_rules | `(tactic| walk_at "gs") => `(tactic| repeat first | walk_at "s1" | walk_at "g1")
local macro_rules | `(tactic| walk_at "ite") => `(tactic| first
  | ((with_reducible refine' w_iteT ?h1 ?_); (case h1 => omega))
  | ((with_reducible refine' w_iteF ?h1 ?_); (case h1 => omega))
  | (with_reducible refine w_ite ?_ ?_ <;> intro hq)
  | ((with_reducible refine' w_iteNT ?h1 ?_); (case h1 => omega))
  | ((with_reducible refine' w_iteNF ?h1 ?_); (case h1 => omega))
  | (with_reducible refine w_iteN ?_ ?_ <;> intro hq))
local macro_rules | `(tactic| walk_at "go") => `(tactic| repeat' first | walk_at "s1" | walk_at "g1" | walk_at "ite")
local macro_rules | `(tactic| walk_at "g1") => `(tactic| first
  | ((with_reducible refine' g_take1 ?h1 ?h2 ?h3 ?h4 ?_); (case h1 => assumption); (case h2 => walk_at "spl"); (case h3 => omega); (case h4 => omega); intro k H2 hk1 hh2)
  | ((with_reducible refine' g_take ?h1 ?h2 ?h4 ?_); (case h1 => assumption); (case h2 => walk_at "spl"); (case h4 => omega); intro k H2 hk1 hh2)
  | ((with_reducible refine' g_betweenN ?h1 ?h2 ?h5 ?h3 ?h4 ?_); (case h1 => assumption); (case h2 => walk_at "spl"); (case h5 => omega); (case h3 => omega); (case h4 => omega); intro k H2 hk1 hk2 hh2)
  | ((with_reducible refine' g_between ?h1 ?h2 ?h3 ?h4 ?_); (case h1 => assumption); (case h2 => walk_at "spl"); (case h3 => omega); (case h4 => omega); intro k H2 hk1 hk2 hh2)
  | ((with_reducible refine' g_size ?h1 ?h2 ?h3 ?h4 ?_); (case h1 => assumption); (case h2 => walk_at "spl"); (case h3 => omega); (case h4 => omega); intro k H2 hk1 hh2)
  | ((with_reducible refine' g_word ?h1 ?h2 ?_); (case h1 => assumption); (case h2 => walk_at "spl"); intro k H2 hk1 hh2))
section
variable {P : Program} {w : World} {K : PySem.W.Frag} {mg : Str → Option Value} {base : Heap} {aREG aOPS : Addr}
structure SpcC (K : PySem.W.Frag) (C : Addr) : Prop where
  cl : Cls K C
  n1 : NoAttr K C "_frames"
  n2 : NoAttr K C "_table"
  n3 : NoAttr K C "_closed"
abbrev spI (C s F ta : Addr) (b : Bool) : Cell := insC s C [("_frames", .ref F), ("_table", .ref ta), ("_closed", .bl b)]
section
variable {C CS tP : Addr}
/-! ### making -/
def sp_spI (C : Addr) : Sp := fun vs H Q _ => ∃ (s F : Addr) (n : Nat) (R : List Cell), vs = [.ref s, .ref F, .int n] ∧ 1 ≤ n ∧ n ≤ 16 ∧ Hd H (insC s C [] :: R) ∧ ∀ ta H', Hd H' (spI C s F ta false :: lstC ta (tbV (List.replicate n none)) :: R) → Q .non H'
abbrev SpF (K : PySem.W.Frag) (f : Addr) (fd : FuncData) : Prop := FunD K "__init__" "Space.__init__" (defArgs s_Space____init__) (defBody s_Space____init__) (defScope s_Space____init__) [] [("pages", .int 4)] f fd
theorem fo_spI {f : Addr} {fd : FuncData} (T : Txt K mg aREG aOPS) (L : SpcC K CS) (F : SpF K f fd) (c_ask_range : C8.Cal P w K mg base 3 "ask_range" (sp_ask K) []) : FnOk P w K mg base C8.CX0 4 f fd ["self", "frames", "pages"] (sp_spI CS) := by
  refine F.ok sc_Space____init__ (fun vs H Q E h => ?_) (fun cdv A outer s H vs Q E hr h => ?_)
  · obtain ⟨s, F, n, R, rfl, _⟩ := h
    rfl
  · obtain ⟨s, F, n, R, rfl, h0, h1, hh, q⟩ := h
    suffices hs : ∃ t, PSs (cxOf C8.CX0 P w K mg base nm_Space____init__ "Space.__init__" (defScope s_Space____init__) f cdv A outer _ H E).nox (defBody s_Space____init__) t ∧ t { nx := fun _ H' => Q .non H', rt := Q } (L2.start nm_Space____init__ [.ref s, .ref F, .int n]) H from let ⟨t, h1, h2⟩ := hs; ⟨t, h1.nox, h2⟩
    refine ⟨_, (pss_cons (ps_expr (C8.pe_c c_ask_range hr (by first | decide | omega) rfl (pa_cons pe_str (pa_cons (pv 2) (pa_cons pe_int (pa_cons pe_int pa_nil))))))
  (pss_cons (ps_fld (pv 0) (pv 1) rfl)
  (pss_cons (ps_fld (pv 0) (pe_op op_rep (pe_lst (pa_cons pe_non pa_nil)) (pv 2)) rfl)
  (pss_one (ps_fld (pv 0) pe_bl rfl))))), ?_⟩
    have hc := L.cl
    have n1 := L.n1
    have n2 := L.n2
    have n3 := L.n3
    walk_at "gs"
    refine u_ask ⟨by omega, by omega⟩ ?_
    walk_at "gs"
    rename_i H1 h1' p1 H2 h2
    refine g_rep h2 (by walk_at "mem") (by omega) (by omega) (by rw [Int.toNat_natCast]; exact Nat.le_trans (show 1 * n ≤ 96 by omega) (by decide)) fun p2 H3 h3 => ?_
    rw [Int.toNat_natCast, rep_flat] at h3
    have h3 : Hd H3 (lstC p2 (List.replicate n V.non) :: lstC p1 [V.non] :: insC s CS [("_frames", .ref F)] :: R) := h3
    clear h2 h1' hh
    walk_at "gs"
    refine g_sfld h3 (by walk_at "pk") hc n2 (by exact (show 1 < 1000 by omega)) fun H4 h4 => ?_
    have h4 : Hd H4 (insC s CS [("_frames", .ref F), ("_table", .ref p2)] :: lstC p2 (List.replicate n V.non) :: lstC p1 [V.non] :: R) := h4
    walk_at "gs"
    refine g_sfld h4 (by walk_at "pk") hc n3 (by exact (show 2 < 1000 by omega)) fun H5 h5 => ?_
    have h5 : Hd H5 (spI CS s F p2 false :: lstC p2 (List.replicate n V.non) :: lstC p1 [V.non] :: R) := h5
    have e : tbV (List.replicate n none) = List.replicate n V.non := by simp [tbV, tV]
    refine q p2 H5 ?_
    rw [e]
    exact Hd.sb h5 (by walk_at "sbx")
/-! ### questions -/
def sp_pages (C : Addr) : Sp := fun vs H Q _ => ∃ (s F ta : Addr) (b : Bool) (Tt : Tb) (L : List Cell), vs = [.ref s] ∧ spI C s F ta b ∈ L ∧ lstC ta (tbV Tt) ∈ L ∧ Hd H L ∧ Q (.int Tt.length) H
theorem c_pages (T : Txt K mg aREG aOPS) (L : SpcC K CS) (d : PrpAt K CS "pages" "Space.pages" s_Space__pages) : Prp P w K mg base 1 CS "pages" (sp_pages CS) := by
  refine mkP d sc_Space__pages (fun _ _ _ _ _ _ us hl => match us, hl with | [_], _ => rfl) (fun vs H Q E h => ?_) (fun f cdv A outer s H vs Q E hr h => ?_)
  · obtain ⟨s, F, ta, b, Tt, L, rfl, _⟩ := h
    rfl
  · obtain ⟨s, F, ta, b, Tt, M, rfl, m1, m2, hh, q⟩ := h
    refine ⟨_, (pss_one (ps_ret (pe_callB Wk.b_len (by rfl) T.b_len (by decide +kernel) (pa_cons (pe_fld (pv 0) rfl) pa_nil)))), ?_⟩
    have hc := L.cl
    have n2 := L.n2
    walk_at "gs"
    rw [List.length_map]
    exact q
def sp_askA (C : Addr) : Sp := fun vs H Q _ => ∃ (s F ta : Addr) (b : Bool) (Tt : Tb) (a : Nat) (L : List Cell), vs = [.ref s, .int a] ∧ Tt.length ≤ 16 ∧ a < 8 * Tt.length ∧ spI C s F ta b ∈ L ∧ lstC ta (tbV Tt) ∈ L ∧ Hd H L ∧ Q .non H
theorem c_askA (T : Txt K mg aREG aOPS) (L : SpcC K CS) (d : MetAt K CS "_ask_address" "Space._ask_address" s_Space___ask_address) (c_ask_range : C8.Cal P w K mg base 3 "ask_range" (sp_ask K) []) : C8.Met P w K mg base 4 CS "_ask_address" (sp_askA CS) [] := by
  refine mkM d sc_Space___ask_address (fun _ _ _ _ _ _ us hl => match us, hl with | [_, _], _ => rfl) (fun vs H Q E h => ?_) (fun f cdv A outer s H vs Q E hr h => ?_)
  · obtain ⟨s, F, ta, b, Tt, a, L, rfl, _⟩ := h
    rfl
  · obtain ⟨s, F, ta, b, Tt, a, M, rfl, t16, ha, m1, m2, hh, q⟩ := h
    refine ⟨_, (pss_one (ps_expr (C8.pe_c c_ask_range hr (by first | decide | omega) rfl (pa_cons pe_str (pa_cons (pv 1) (pa_cons pe_int (pa_cons (pe_op op_sub (pe_op op_mul pe_int (pe_callB Wk.b_len (by rfl) T.b_len (by decide +kernel) (pa_cons (pe_fld (pv 0) rfl) pa_nil))) pe_int) pa_nil))))))), ?_⟩
    have hc := L.cl
    have n2 := L.n2
    have hl : (tbV Tt).length = Tt.length := List.length_map ..
    walk_at "gs"
    refine u_ask ⟨by omega, by omega⟩ ?_
    exact q
def sp_askU (C : Addr) : Sp := fun vs H Q _ => ∃ (s F ta : Addr) (L : List Cell), vs = [.ref s] ∧ spI C s F ta false ∈ L ∧ Hd H L ∧ Q .non H
theorem c_askU (T : Txt K mg aREG aOPS) (L : SpcC K CS) (d : MetAt K CS "_ask_unclosed" "Space._ask_unclosed" s_Space___ask_unclosed) : C8.Met P w K mg base 1 CS "_ask_unclosed" (sp_askU CS) [] := by
  refine mkM d sc_Space___ask_unclosed (fun _ _ _ _ _ _ us hl => match us, hl with | [_], _ => rfl) (fun vs H Q E h => ?_) (fun f cdv A outer s H vs Q E hr h => ?_)
  · obtain ⟨s, F, ta, L, rfl, _⟩ := h
    rfl
  · obtain ⟨s, F, ta, M, rfl, m1, hh, q⟩ := h
    refine ⟨_, (pss_one (ps_if (pt_val (pe_fld (pv 0) rfl))
    (pss_one ps_never)
    pss_nil)), ?_⟩
    have hc := L.cl
    have n3 := L.n3
    walk_at "gs"
    exact q
def sp_wordat (C CS : Addr) : Sp := fun vs H Q _ => ∃ (s : Addr) (A : FA) (ta : Addr) (S : St1) (ps : List Pg) (Tt : Tb) (a : Nat) (R : List Cell), vs = [.ref s, .int a] ∧ FOk S ps ∧ TOk S Tt ∧ a < 8 * Tt.length ∧ Hd H (frB C A S ps ++ (spI CS s A.F ta false :: lstC ta (tbV Tt) :: R)) ∧
  ∀ H', Hd H' (frB C A S ps ++ (spI CS s A.F ta false :: lstC ta (tbV Tt) :: R)) → Q (.int (valAt S Tt a)) H'
theorem c_wordat (T : Txt K mg aREG aOPS) (L : SpcC K CS) (d : MetAt K CS "_word_at" "Space._word_at" s_Space___word_at) (c_Space__ask_address : C8.Met P w K mg base 4 CS "_ask_address" (sp_askA CS) []) (c_Space__ask_unclosed : C8.Met P w K mg base 1 CS "_ask_unclosed" (sp_askU CS) []) (c_Frames_peek : C8.Met P w K mg base 5 C "peek" (sp_peek C) []) : C8.Met P w K mg base 6 CS "_word_at" (sp_wordat C CS) [] := by
  refine mkM d sc_Space___word_at (fun _ _ _ _ _ _ us hl => match us, hl with | [_, _], _ => rfl) (fun vs H Q E h => ?_) (fun f cdv A outer s H vs Q E hr h => ?_)
  · obtain ⟨s, A, ta, S, ps, Tt, a, R, rfl, _⟩ := h
    rfl
  · obtain ⟨s, A, ta, S, ps, Tt, a, R, rfl, k, t, ha, hh, q⟩ := h
    refine ⟨_, (pss_cons (ps_expr (C8.pe_mt c_Space__ask_address hr (by first | decide | omega) (pv 0) (pa_cons (pv 1) pa_nil)))
  (pss_cons (ps_expr (C8.pe_mt0 c_Space__ask_unclosed hr (by first | decide | omega) (pv 0)))
  (pss_cons (ps_set (i := 2) sc_Space___word_at.nd rfl (Or.inl rfl) (pe_ix ix_list (pe_fld (pv 0) rfl) (pe_op op_fdiv (pv 1) pe_int) (fun _ _ => rfl)))
  (pss_cons (ps_if (pt_cmpR op_isN1 (pv 2) pe_non (nomark _))
    (pss_one (ps_ret pe_int))
    pss_nil)
  (pss_one (ps_ret (C8.pe_mt c_Frames_peek hr (by first | decide | omega) (pe_fld (pv 0) rfl) (pa_cons (pv 2) (pa_cons (pe_op op_mod (pv 1) pe_int) pa_nil))))))))), ?_⟩
    have hc := L.cl
    have n1 := L.n1
    have n2 := L.n2
    have t16 := t.n16
    have hl : (tbV Tt).length = Tt.length := List.length_map ..
    walk_at "gs"
    refine ⟨s, A.F, ta, false, Tt, a, _, rfl, t16, ha, by walk_at "mem", by walk_at "mem", hh, ?_⟩
    walk_at "gs"
    refine ⟨s, A.F, ta, _, rfl, by walk_at "mem", hh, ?_⟩
    walk_at "gs"
    rw [show ((a : Int) / 8) = ((a / 8 : Nat) : Int) by omega]
    refine w_ixL (hh.sqL (by walk_at "mem")) (atI_nat (tb_at (by omega))) ?_
    walk_at "gs"
    cases e : Tt.getD (a / 8) none with
    | none =>
      have ev : valAt S Tt a = 0 := by
        unfold valAt; rw [e]
        show (List.replicate 8 (0 : Int)).getD (a % 8) 0 = 0
        rw [List.getD_eq_getElem?_getD, List.getElem?_replicate_of_lt (by omega)]; rfl
      rw [show tV none = V.non from rfl]
      walk_at "gs"
      have := q H hh
      rwa [ev] at this
    | some fr =>
      obtain ⟨hf, h0⟩ := t.e fr (tb_mem e)
      rw [show tV (some fr) = V.int fr from rfl]
      have hh2 : Hd H (frL A.F C A.hl A.pl S ps (spI CS s A.F ta false :: lstC ta (tbV Tt) :: R)) := by rw [frB_app]; exact hh
      walk_at "gs"
      rw [show ((a : Int) % 8) = ((a % 8 : Nat) : Int) by omega]
      refine ⟨A.F, A.hl, A.pl, fr, a % 8, S, ps, _, rfl, hf, by omega, k.l, k.pg, hh2, h0, fun H' h' => ?_⟩
      rw [frB_app] at h'
      have := q H' h'
      unfold valAt at this
      rw [e] at this
      exact this
def sp_read (C CS : Addr) : Sp := sp_wordat C CS
theorem c_read (T : Txt K mg aREG aOPS) (d : MetAt K CS "read" "Space.read" s_Space__read) (c_Space__word_at : C8.Met P w K mg base 6 CS "_word_at" (sp_wordat C CS) []) : C8.Met P w K mg base 7 CS "read" (sp_read C CS) [] := by
  refine mkM d sc_Space__read (fun _ _ _ _ _ _ us hl => match us, hl with | [_, _], _ => rfl) (fun vs H Q E h => ?_) (fun f cdv A outer s H vs Q E hr h => ?_)
  · obtain ⟨s, A, ta, S, ps, Tt, a, R, rfl, _⟩ := h
    rfl
  · obtain ⟨s, A, ta, S, ps, Tt, a, R, rfl, k, t, ha, hh, q⟩ := h
    refine ⟨_, (pss_one (ps_ret (C8.pe_mt c_Space__word_at hr (by first | decide | omega) (pv 0) (pa_cons (pv 1) pa_nil)))), ?_⟩
    walk_at "gs"
    exact ⟨s, A, ta, S, ps, Tt, a, R, rfl, k, t, ha, hh, q⟩
end
end
end K05
set_option Elab.async false
set_option linter.all false
set_option maxRecDepth 100000
set_option maxHeartbeats 4000000
namespace K05
open PySem PySem.Spec PyProof.Rows L2 Wk
local macro_rules | `(tactic| walk_at "u1") => `(tactic| fail "no more")
local macro_rules | `(tactic| walk_at "pos") => `(tactic| first | assumption | omega | decide | (simp only [Int.ofNat_eq_natCast] at *; omega))
local macro_rules | `(tactic| walk_at "sz") => `(tactic| first
  | (simp only [List.length_cons, List.length_nil]; decide)
  | exact Evl.sz_of (by omega)
  | exact Evl.sz_lt (by omega)
  | exact Evl.sz_of (by simp only [List.length_map, List.length_append, List.length_cons, List.length_nil, List.length_replicate]; omega)
  | exact Evl.sz_lt (by simp only [List.length_map, List.length_append, List.length_cons, List.length_nil, List.length_replicate]; omega))
local macro_rules | `(tactic| walk_at "cond") => `(tactic| first
  | exact Or.inr ⟨by decide, by decide⟩
  | (show (0 : Int) < _; first | decide | assumption | omega)
  | exact Or.inl ⟨by omega, by omega⟩
  | exact Or.inr ⟨by omega, by omega⟩
  | exact ⟨by decide, by decide, by decide⟩
  | exact log2_lt (by omega) (by omega)
  | exact ⟨by omega, by omega⟩)
local macro_rules | `(tactic| walk_at "ty") => `(tactic| first
  | exact ty_int | exact ty_bl | exact ty_str | exact ty_non
  | exact ty_L (by assumption) | exact ty_T (by assumption)
  | exact ty_L (SqL.of (by assumption)) | exact ty_T (SqT.of (by assumption)))
local macro_rules | `(tactic| walk_at "kit") => `(tactic| first
  | exact k_ii | exact k_ib | exact k_is | exact k_il | exact k_it
  | exact k_bb | exact k_bi | exact k_bs | exact k_bl | exact k_bt
  | exact k_ss | exact k_sb | exact k_si | exact k_sl | exact k_st
  | exact k_ll | exact k_lb | exact k_li | exact k_ls | exact k_lt
  | exact k_tt | exact k_tb | exact k_ti | exact k_ts | exact k_tl
  | exact k_nn | exact k_ni | exact k_ns | exact k_nl | exact k_nt)
local macro_rules | `(tactic| walk_at "s1") => `(tactic| first
  | with_reducible refine w_seq ?_
  | with_reducible refine w_set ?_
  | with_reducible refine w_op ?_
  | ((with_reducible refine' w_var ?h1 ?_); (case h1 => rfl))
  | with_reducible refine w_c ?_
  | with_reducible refine w_cb ?_
  | with_reducible refine w_cons ?_
  | with_reducible refine w_nil ?_
  | with_reducible refine w_I0 ?_
  | ((with_reducible refine' w_I ?c1 ?_); case c1 => walk_at "cond")
  | with_reducible refine w_ret ?_
  | with_reducible refine w_next ?_
  | with_reducible refine w_ifS ?_
  | with_reducible refine w_test ?_
  | with_reducible refine w_tB ?_
  | with_reducible refine w_k ?_
  | with_reducible refine w_eqI ?_
  | with_reducible refine w_neI ?_
  | with_reducible refine w_eqS ?_
  | with_reducible refine w_neS ?_
  | with_reducible refine w_and ?_
  | with_reducible refine w_or ?_
  | with_reducible refine w_not ?_
  | with_reducible refine w_andV ?_
  | with_reducible refine w_orV ?_
  | with_reducible refine w_notV ?_
  | with_reducible refine w_ifE ?_
  | with_reducible refine w_true ?_
  | with_reducible refine w_false ?_
  | with_reducible refine w_ntrue ?_
  | with_reducible refine w_nfalse ?_
  | with_reducible refine w_call ?_
  | with_reducible refine c_int ?_
  | with_reducible refine c_abs ?_
  | with_reducible refine c_max ?_
  | with_reducible refine c_min ?_
  | with_reducible refine w_drop ?_
  | with_reducible refine w_sfld ?_
  | with_reducible refine w_meth ?_
  | with_reducible refine w_make ?_
  | with_reducible refine w_prop ?_
  | with_reducible refine w_callK ?_
  | with_reducible refine w_callN ?_
  | with_reducible refine w_star ?_
  | with_reducible refine w_gcons ?_
  | with_reducible refine w_gname ?_
  | with_reducible refine w_gnil ?_
  | with_reducible refine w_retN ?_
  | with_reducible refine w_tup ?_
  | with_reducible refine w_lst ?_
  | with_reducible refine w_fld ?_
  | with_reducible refine w_bm ?_
  | with_reducible refine w_bm0 ?_
  | with_reducible refine w_forL ?_
  | with_reducible refine w_forT ?_
  | with_reducible refine w_forS ?_
  | with_reducible refine w_forR ?_
  | with_reducible refine w_lcR ?_
  | with_reducible refine w_lcL ?_
  | with_reducible refine w_lcT ?_
  | with_reducible refine w_isN ?_
  | with_reducible refine w_notN ?_
  | with_reducible refine w_asg ?_
  | with_reducible refine w_gsub ?_
  | ((with_reducible refine' w_aug ?h1 ?_); (case h1 => rfl))
  | with_reducible refine w_augS ?_
  | with_reducible refine w_ipI ?_
  | with_reducible refine w_un ?_
  | with_reducible refine w_U ?_
  | ((with_reducible refine' w_iteF ?f1 ?_); case f1 => (first | (intro h; cases h; done) | decide))
  | ((with_reducible refine' w_iteT ?f1 ?_); case f1 => rfl)
  | ((with_reducible refine' w_iteNF ?f1 ?_); case f1 => rfl)
  | ((with_reducible refine' w_iteNT ?f1 ?_); case f1 => (first | (intro h; cases h; done) | decide))
  | ((with_reducible refine' c_isi ?t1 ?k1 ?_); (case t1 => walk_at "ty"); (case k1 => walk_at "kit"))
  | ((with_reducible refine' w_eq ?e1 ?_); case e1 => rfl)
  | ((with_reducible refine' w_ne ?e1 ?_); case e1 => rfl)
  | walk_at "u1")
local macro_rules | `(tactic| walk_at "s") => `(tactic| repeat walk_at "s1")
local macro_rules | `(tactic| walk_at "mem") => `(tactic| first | with_reducible exact List.mem_cons_self .. | ((with_reducible refine' List.mem_cons_of_mem _ ?q); (case q => walk_at "mem")) | assumption | ((with_reducible refine' List.mem_append_right _ ?q); (case q => walk_at "mem")) | (exact List.mem_append_left _ (by assumption)))
local macro_rules | `(tactic| walk_at "pk") => `(tactic| first | with_reducible exact Pk.here | ((with_reducible refine' Pk.there ?q); (case q => walk_at "pk")) | ((with_reducible refine' Pk.app ?q); (case q => walk_at "pk")))
local macro_rules | `(tactic| walk_at "pkb") => `(tactic| first | with_reducible exact PkB.here | ((with_reducible refine' PkB.there ?q); (case q => walk_at "pkb")) | ((with_reducible refine' PkB.app ?q); (case q => walk_at "pkb")))
local macro_rules | `(tactic| walk_at "spl") => `(tactic| first | with_reducible exact Spl.nil | ((with_reducible refine' Spl.cons ?h ?t); (case h => walk_at "pk"); (case t => walk_at "spl")) | ((with_reducible refine' Spl.blk ?h ?t); (case h => walk_at "pkb"); (case t => walk_at "spl")))
local macro_rules | `(tactic| walk_at "sbx") => `(tactic| first | with_reducible exact Sb.refl | with_reducible exact Sb.nil | with_reducible exact Sb.left | ((with_reducible refine' Sb.cons ?h ?t); (case h => walk_at "pk"); (case t => walk_at "sbx")) | ((with_reducible refine' Sb.blk ?h ?t); (case h => walk_at "pkb"); (case t => walk_at "sbx")) | ((with_reducible refine' Sb.drop ?q); (case q => walk_at "sbx")) | ((with_reducible refine' Sb.right ?q); (case q => walk_at "sbx")))
local macro_rules | `(tactic| walk_at "hd") => `(tactic| first | assumption | exact Hd.sb (by assumption) (by walk_at "sbx"))
local macro_rules | `(tactic| walk_at "sq") => `(tactic| first
  | assumption
  | exact Hd.sqL (by assumption) (by walk_at "mem")
  | exact Hd.sqT (by assumption) (by walk_at "mem")
  | exact Hd.sqF (by assumption) (by walk_at "mem")
  | (refine .inl ?_; walk_at "sq")
  | (refine .inr ?_; walk_at "sq"))
local macro_rules | `(tactic| walk_at "at") => `(tactic| first | rfl | assumption | exact atI_nat (by assumption))
local macro_rules | `(tactic| walk_at "dn1") => `(tactic| first
  | exact Dn.int | exact Dn.str | exact Dn.non | exact Dn.bl | assumption
  | ((refine' Dn.tp ?a1 ?m1 ?l1 ?p1); (case a1 => assumption); (case m1 => walk_at "mem"); (case l1 => (simp only [List.length_cons, List.length_nil]; omega)); (case p1 => walk_at "dns"))
  | ((refine' Dn.lt ?a1 ?m1 ?l1 ?p1); (case a1 => assumption); (case m1 => walk_at "mem"); (case l1 => (simp only [List.length_cons, List.length_nil]; omega)); (case p1 => walk_at "dns")))
local macro_rules | `(tactic| walk_at "dns") => `(tactic| first | exact Paired.nil | exact Dn.ints | ((refine' Paired.cons ?a1 ?b1); (case a1 => walk_at "dn1"); (case b1 => walk_at "dns")))
local macro_rules | `(tactic| walk_at "g1") => `(tactic| first
  | ((with_reducible refine' g_ixI ?h1 ?h2 ?h3 ?_); (case h1 => assumption); (case h2 => walk_at "mem"); (case h3 => omega); intro z hz)
  | ((with_reducible refine' g_ixIT ?h1 ?h2 ?h3 ?_); (case h1 => assumption); (case h2 => walk_at "mem"); (case h3 => omega); intro z hz)
  | ((with_reducible refine' g_setI ?h1 ?h2 ?h3 ?_); (case h1 => assumption); (case h2 => walk_at "pk"); (case h3 => omega); intro H2 hh2)
  | ((with_reducible refine' w_ixL ?h1 ?h2 ?_); (case h1 => walk_at "sq"); (case h2 => walk_at "at"))
  | ((with_reducible refine' w_ixT ?h1 ?h2 ?_); (case h1 => walk_at "sq"); (case h2 => walk_at "at"))
  | ((with_reducible refine' w_ixAny ?h1 ?h2 ?_); (case h1 => walk_at "sq"); (case h2 => walk_at "at"))
  | ((with_reducible refine' c_lenA ?h1 ?_); (case h1 => walk_at "sq"))
  | ((with_reducible refine' c_isi ?t1 ?k1 ?_); (case t1 => first | exact ty_T (by walk_at "sq") | exact ty_L (by walk_at "sq")); (case k1 => walk_at "kit"))
  | ((with_reducible refine' g_lst ?h1 ?h2 ?_); (case h1 => assumption); (case h2 => walk_at "sz"); intro p H2 hh2)
  | ((with_reducible refine' g_tup ?h1 ?h2 ?_); (case h1 => assumption); (case h2 => walk_at "sz"); intro p H2 hh2)
  | ((with_reducible refine' g_dict ?h1 ?_); (case h1 => assumption); intro p H2 hh2)
  | ((with_reducible refine' g_listL ?h1 ?h2 ?_); (case h1 => assumption); (case h2 => walk_at "sq"); intro p H2 hh2)
  | ((with_reducible refine' g_listT ?h1 ?h2 ?_); (case h1 => assumption); (case h2 => walk_at "sq"); intro p H2 hh2)
  | ((with_reducible refine' g_tupL ?h1 ?h2 ?_); (case h1 => assumption); (case h2 => walk_at "sq"); intro p H2 hh2)
  | ((with_reducible refine' g_set ?h1 ?h2 ?h3 ?_); (case h1 => assumption); (case h2 => walk_at "pk"); (case h3 => first | rfl | assumption | exact Evl.ixN_nat (by first | omega | (simp only [List.length_cons, List.length_nil]; omega))); intro H2 hh2)
  | ((with_reducible refine' g_kbm ?h1 ?h2 ?_); (case h1 => assumption); (case h2 => walk_at "mem"))
  | ((with_reducible refine' g_kbm0 ?h1 ?h2 ?_); (case h1 => assumption); (case h2 => walk_at "mem"))
  | ((with_reducible refine' g_app ?h1 ?h2 ?h3 ?_); (case h1 => assumption); (case h2 => walk_at "pk"); (case h3 => walk_at "sz"); intro H2 hh2)
  | ((with_reducible refine' g_kapp ?h1 ?h2 ?h3 ?_); (case h1 => assumption); (case h2 => walk_at "pk"); (case h3 => walk_at "sz"); intro H2 hh2)
  | ((with_reducible refine' g_fld ?h1 ?h2 ?h3 ?h4 ?h5 ?_); (case h1 => assumption); (case h2 => walk_at "mem"); (case h3 => assumption); (case h4 => assumption); (case h5 => rfl))
  | ((with_reducible refine' g_sfld ?h1 ?h2 ?h3 ?h4 ?h5 ?_); (case h1 => assumption); (case h2 => walk_at "pk"); (case h3 => assumption); (case h4 => assumption); (case h5 => decide); intro H2 hh2)
  | ((with_reducible refine' g_meth ?h1 ?h2 ?h3 ?_); (case h1 => assumption); (case h2 => walk_at "mem"); (case h3 => rfl))
  | ((with_reducible refine' g_prop ?h1 ?h2 ?_); (case h1 => assumption); (case h2 => walk_at "mem"))
  | ((with_reducible refine' g_make ?h1 ?_); (case h1 => assumption); intro x H2 hh2)
  | ((with_reducible refine' g_cat ?h1 ?h2 ?h3 ?h4 ?_); (case h1 => assumption); (case h2 => walk_at "mem"); (case h3 => walk_at "mem"); (case h4 => walk_at "sz"); intro p H2 hh2)
  | ((with_reducible refine' g_inT ?h1 ?h2 ?h3 ?h4 ?h5 ?_); (case h1 => assumption); (case h2 => walk_at "mem"); (case h3 => rfl); (case h4 => rfl); (case h5 => rfl)))
local macro_rules | `(tactic| walk_at "gs") => `(tactic| repeat first | walk_at "s1" | walk_at "g1")
local macro_rules | `(tactic| walk_at "ite") => `(tactic| first
  | ((with_reducible refine' w_iteT ?h1 ?_); (case h1 => omega))
  | ((with_reducible refine' w_iteF ?h1 ?_); (case h1 => omega))
  | (with_reducible refine w_ite ?_ ?_ <;> intro hq)
  | ((with_reducible refine' w_iteNT ?h1 ?_); (case h1 => omega))
  | ((with_reducible refine' w_iteNF ?h1 ?_); (case h1 => omega))
  | (with_reducible refine w_iteN ?_ ?_ <;> intro hq))
local macro_rules | `(tactic| walk_at "go") => `(tactic| repeat' first | walk_at "s1" | walk_at "g1" | walk_at "ite")
local macro_rules | `(tactic| walk_at "g1") => `(tactic| first
  | ((with_reducible refine' g_take1 ?h1 ?h2 ?h3 ?h4 ?_); (case h1 => assumption); (case h2 => walk_at "spl"); (case h3 => omega); (case h4 => omega); intro k H2 hk1 hh2)
  | ((with_reducible refine' g_take ?h1 ?h2 ?h4 ?_); (case h1 => assumption); (case h2 => walk_at "spl"); (case h4 => omega); intro k H2 hk1 hh2)
  | ((with_reducible refine' g_betweenN ?h1 ?h2 ?h5 ?h3 ?h4 ?_); (case h1 => assumption); (case h2 => walk_at "spl"); (case h5 => omega); (case h3 => omega); (case h4 => omega); intro k H2 hk1 hk2 hh2)
  | ((with_reducible refine' g_between ?h1 ?h2 ?h3 ?h4 ?_); (case h1 => assumption); (case h2 => walk_at "spl"); (case h3 => omega); (case h4 => omega); intro k H2 hk1 hk2 hh2)
  | ((with_reducible refine' g_size ?h1 ?h2 ?h3 ?h4 ?_); (case h1 => assumption); (case h2 => walk_at "spl"); (case h3 => omega); (case h4 => omega); intro k H2 hk1 hh2)
  | ((with_reducible refine' g_word ?h1 ?h2 ?_); (case h1 => assumption); (case h2 => walk_at "spl"); intro k H2 hk1 hh2))
section
variable {P : Program} {w : World} {K : PySem.W.Frag} {mg : Str → Option Value} {base : Heap} {aREG aOPS : Addr}
section
variable {C CS tP : Addr}
def sp_own (C CS tP : Addr) : Sp := fun vs H Q _ => ∃ (s : Addr) (A : FA) (ta : Addr) (S : St1) (ps : List Pg) (Tt : Tb) (p : Nat) (R : List Cell), vs = [.ref s, .int p] ∧ FOk S ps ∧ TOk S Tt ∧ p < Tt.length ∧ Room1 S Tt p ∧ Hd H (tblC tP :: (frB C A S ps ++ (spI CS s A.F ta false :: lstC ta (tbV Tt) :: R))) ∧
  ∀ ps' H', FOk (ownS S Tt p).2.1 ps' → Hd H' (tblC tP :: (frB C A (ownS S Tt p).2.1 ps' ++ (spI CS s A.F ta false :: lstC ta (tbV (ownS S Tt p).2.2) :: R))) → Q (.int (ownS S Tt p).1) H'
theorem c_own (T : Txt K mg aREG aOPS) (L : SpcC K CS) (d : MetAt K CS "_own_frame" "Space._own_frame" s_Space___own_frame) (c_Frames_holds : C8.Met P w K mg base 5 C "holds" (sp_holds C) []) (c_Frames_take1 : C8.Met P w K mg base 7 C "take" (sp_ftake C tP) [.non]) (c_Frames_take : C8.Met P w K mg base 7 C "take" (sp_ftake C tP) []) (c_Frames_page : C8.Met P w K mg base 5 C "page" (sp_page C) []) (c_Frames_drop : C8.Met P w K mg base 5 C "drop" (sp_drop C) []) : C8.Met P w K mg base 8 CS "_own_frame" (sp_own C CS tP) [] := by
  refine mkM d sc_Space___own_frame (fun _ _ _ _ _ _ us hl => match us, hl with | [_, _], _ => rfl) (fun vs H Q E h => ?_) (fun f cdv A_ outer s H vs Q E hr h => ?_)
  · obtain ⟨s, A, ta, S, ps, Tt, p, R, rfl, _⟩ := h
    rfl
  · obtain ⟨s, A, ta, S, ps, Tt, p, R, rfl, k, t, hp, rm, hh, q⟩ := h
    refine ⟨_, (pss_cons (ps_set (i := 2) sc_Space___own_frame.nd rfl (Or.inl rfl) (pe_ix ix_list (pe_fld (pv 0) rfl) (pv 1) (fun _ _ => rfl)))
  (pss_cons (ps_if (PW.pt (pw_and (pt_cmpR op_notN1 (pv 2) pe_non (nomark _)) (pw_and1 (pt_cmpR op_eq (C8.pe_mt c_Frames_holds hr (by first | decide | omega) (pe_fld (pv 0) rfl) (pa_cons (pv 2) pa_nil)) pe_int (nomark _)))))
    (pss_one (ps_ret (pv 2)))
    pss_nil)
  (pss_cons (ps_if (pt_cmpR op_isN1 (pv 2) pe_non (nomark _))
    (pss_one (ps_set (i := 3) sc_Space___own_frame.nd rfl (Or.inl rfl) (C8.pe_mt0 c_Frames_take1 hr (by first | decide | omega) (pe_fld (pv 0) rfl))))
    (pss_cons (ps_set (i := 3) sc_Space___own_frame.nd rfl (Or.inl rfl) (C8.pe_mt c_Frames_take hr (by first | decide | omega) (pe_fld (pv 0) rfl) (pa_cons (C8.pe_mt c_Frames_page hr (by first | decide | omega) (pe_fld (pv 0) rfl) (pa_cons (pv 2) pa_nil)) pa_nil)))
      (pss_one (ps_expr (C8.pe_mt c_Frames_drop hr (by first | decide | omega) (pe_fld (pv 0) rfl) (pa_cons (pv 2) pa_nil))))))
  (pss_cons (ps_asg (pv 3) (pg_sub (pe_fld (pv 0) rfl) (pv 1) set_list))
  (pss_one (ps_ret (pv 3))))))), ?_⟩
    have hc := L.cl
    have n1 := L.n1
    have n2 := L.n2
    have hl : (tbV Tt).length = Tt.length := List.length_map ..
    have ts : ∀ i : Nat, (tbV Tt).set p (.int i) = tbV (Tt.set p (some i)) := fun i => by unfold tbV; rw [List.map_set]; rfl
    walk_at "gs"
    refine w_ixL (hh.sqL (by walk_at "mem")) (atI_nat (tb_at hp)) ?_
    walk_at "gs"
    cases e : Tt.getD p none with
    | none =>
      obtain ⟨i, hi⟩ : ∃ i, lowest S = some i := rm.resolve_left fun ⟨f, e2, _⟩ => by rw [e] at e2; cases e2
      have eo : ownS S Tt p = (i, S.set i (1, List.replicate 8 0), Tt.set p (some i)) := by unfold ownS; rw [e]; simp only [hi, Option.getD_some]
      obtain ⟨hil, _, _⟩ := lowest_some hi
      rw [show tV none = V.non from rfl]
      walk_at "gs"
      have hh2 : Hd H (tblC tP :: frL A.F C A.hl A.pl S ps (spI CS s A.F ta false :: lstC ta (tbV Tt) :: R)) := by rw [frB_app]; exact hh
      walk_at "gs"
      refine ⟨A.F, A.hl, A.pl, .non, none, i, S, ps, _, rfl, k.l, k.pg, hh2, .inl ⟨rfl, rfl⟩, hi, fun ps' H1 o1 h1 => ?_⟩
      rw [frB_app] at h1
      have h1 : Hd H1 (tblC tP :: (frB C A (S.set i (1, List.replicate 8 0)) ps' ++ (spI CS s A.F ta false :: lstC ta (tbV Tt) :: R))) := h1
      clear hh hh2
      walk_at "gs"
      rename_i H2 h2
      rw [ts] at h2
      rw [eo] at q
      exact q ps' H2 (k.set hil (fun x hx => by rw [List.eq_of_mem_replicate hx]; omega) o1) (Hd.sb h2 (by walk_at "sbx"))
    | some fr =>
      obtain ⟨hf, h0⟩ := t.e fr (tb_mem e)
      rw [show tV (some fr) = V.int fr from rfl]
      have hh2 : Hd H (frL A.F C A.hl A.pl S ps (tblC tP :: spI CS s A.F ta false :: lstC ta (tbV Tt) :: R)) := by rw [frB_app]; exact Hd.sb hh (by walk_at "sbx")
      walk_at "gs"
      refine ⟨A.F, A.hl, A.pl, fr, S, ps, _, rfl, hf, k.l, hh2, ?_⟩
      walk_at "gs"
      by_cases h1 : hat S fr = 1
      · have eo : ownS S Tt p = (fr, S, Tt) := by unfold ownS; rw [e]; simp only [if_pos h1]
        rw [decide_eq_true (by omega)]
        walk_at "gs"
        rw [eo] at q
        exact q ps H k hh
      · obtain ⟨i, hi⟩ : ∃ i, lowest S = some i := rm.resolve_left fun ⟨f, e2, e3⟩ => by rw [e] at e2; cases e2; exact h1 e3
        have eo : ownS S Tt p = (i, (S.set i (1, wat S fr)).set fr (hat S fr - 1, wat S fr), Tt.set p (some i)) := by unfold ownS; rw [e]; simp only [if_neg h1, hi, Option.getD_some]
        obtain ⟨hil, hi0, _⟩ := lowest_some hi
        have hne : fr ≠ i := fun z => by rw [← z] at hi0; omega
        rw [decide_eq_false (by omega)]
        walk_at "gs"
        refine ⟨A.F, A.hl, A.pl, fr, S, ps, _, rfl, hf, k.l, k.pg, hh2, h0, fun pg H1 h1' => ?_⟩
        rw [frB_app] at h1'
        clear hh hh2
        have h1' : Hd H1 (tblC tP :: frL A.F C A.hl A.pl S ps (lstC pg ((wat S fr).map V.int) :: spI CS s A.F ta false :: lstC ta (tbV Tt) :: R)) := by rw [frB_app]; exact Hd.sb h1' (by walk_at "sbx")
        walk_at "gs"
        refine ⟨A.F, A.hl, A.pl, .ref pg, some (pg, wat S fr), i, S, ps, _, rfl, k.l, k.pg, h1', .inr ⟨pg, wat S fr, rfl, rfl, (k.pg.2 fr hf h0).1, k.w fr hf h0, .head _⟩, hi, fun ps' H2 o2 h2 => ?_⟩
        have h2 : Hd H2 (tblC tP :: frL A.F C A.hl A.pl (S.set i (1, wat S fr)) ps' (lstC pg ((wat S fr).map V.int) :: spI CS s A.F ta false :: lstC ta (tbV Tt) :: R)) := h2
        have o2 : PgOk (S.set i (1, wat S fr)) ps' := o2
        have ha : hat (S.set i (1, wat S fr)) fr = hat S fr := by rw [hat_set hil, if_neg hne]
        have wa : wat (S.set i (1, wat S fr)) fr = wat S fr := by rw [wat_set hil, if_neg hne]
        have k2 := k.set hil (k.w fr hf h0) o2
        have hf2 : fr < (S.set i (1, wat S fr)).length := by rw [List.length_set]; exact hf
        clear h1'
        rw [frB_app] at h2
        have h2 : Hd H2 (frL A.F C A.hl A.pl (S.set i (1, wat S fr)) ps' (tblC tP :: lstC pg ((wat S fr).map V.int) :: spI CS s A.F ta false :: lstC ta (tbV Tt) :: R)) := by rw [frB_app]; exact Hd.sb h2 (by walk_at "sbx")
        walk_at "gs"
        refine ⟨A.F, A.hl, A.pl, fr, _, ps', _, rfl, hf2, k2.l, o2, h2, by rw [ha]; exact h0, fun H3 h3 => ?_⟩
        rw [frB_app, ha, wa] at h3
        clear h2
        walk_at "gs"
        rename_i H4 h4
        rw [ts] at h4
        rw [eo] at q
        have o3 := PgOk.hold (h := hat S fr - 1) o2 hf2 (by rw [ha]; exact h0)
        rw [wa] at o3
        exact q ps' H4 (k2.set hf2 (k.w fr hf h0) o3) (Hd.sb h4 (by walk_at "sbx"))
/-! ### writing -/
def sp_write (C CS tP : Addr) : Sp := fun vs H Q _ => ∃ (s : Addr) (A : FA) (ta : Addr) (S : St1) (ps : List Pg) (Tt : Tb) (a : Nat) (x : Int) (R : List Cell), vs = [.ref s, .int a, .int x] ∧ FOk S ps ∧ TOk S Tt ∧ a < 8 * Tt.length ∧ 0 ≤ x ∧ x ≤ 65535 ∧ Room1 S Tt (a / 8) ∧ Hd H (tblC tP :: (frB C A S ps ++ (spI CS s A.F ta false :: lstC ta (tbV Tt) :: R))) ∧
  ∀ ps' H', FOk (wrS S Tt a x).1 ps' → Hd H' (tblC tP :: (frB C A (wrS S Tt a x).1 ps' ++ (spI CS s A.F ta false :: lstC ta (tbV (wrS S Tt a x).2) :: R))) → Q .non H'
theorem c_write (T : Txt K mg aREG aOPS) (L : SpcC K CS) (d : MetAt K CS "write" "Space.write" s_Space__write) (c_Space__ask_address : C8.Met P w K mg base 4 CS "_ask_address" (sp_askA CS) []) (c_Space__ask_unclosed : C8.Met P w K mg base 1 CS "_ask_unclosed" (sp_askU CS) []) (c_ask_word : C8.Cal P w K mg base 4 "ask_word" (sp_askW K) []) (c_Space__own_frame : C8.Met P w K mg base 8 CS "_own_frame" (sp_own C CS tP) []) (c_Frames_poke : C8.Met P w K mg base 5 C "poke" (sp_poke C) []) : C8.Met P w K mg base 9 CS "write" (sp_write C CS tP) [] := by
  refine mkM d sc_Space__write (fun _ _ _ _ _ _ us hl => match us, hl with | [_, _, _], _ => rfl) (fun vs H Q E h => ?_) (fun f cdv A_ outer s H vs Q E hr h => ?_)
  · obtain ⟨s, A, ta, S, ps, Tt, a, x, R, rfl, _⟩ := h
    rfl
  · obtain ⟨s, A, ta, S, ps, Tt, a, x, R, rfl, k, t, ha, hx0, hx1, rm, hh, q⟩ := h
    refine ⟨_, (pss_cons (ps_expr (C8.pe_mt c_Space__ask_address hr (by first | decide | omega) (pv 0) (pa_cons (pv 1) pa_nil)))
  (pss_cons (ps_expr (C8.pe_c c_ask_word hr (by first | decide | omega) rfl (pa_cons pe_str (pa_cons (pv 2) pa_nil))))
  (pss_cons (ps_expr (C8.pe_mt0 c_Space__ask_unclosed hr (by first | decide | omega) (pv 0)))
  (pss_cons (ps_set (i := 3) sc_Space__write.nd rfl (Or.inl rfl) (C8.pe_mt c_Space__own_frame hr (by first | decide | omega) (pv 0) (pa_cons (pe_op op_fdiv (pv 1) pe_int) pa_nil)))
  (pss_one (ps_expr (C8.pe_mt c_Frames_poke hr (by first | decide | omega) (pe_fld (pv 0) rfl) (pa_cons (pv 3) (pa_cons (pe_op op_mod (pv 1) pe_int) (pa_cons (pv 2) pa_nil)))))))))), ?_⟩
    have hc := L.cl
    have n1 := L.n1
    have n2 := L.n2
    have t16 := t.n16
    have hp : a / 8 < Tt.length := by omega
    obtain ⟨o1, o2, o3, o4, o5, o6⟩ := own_ok k t hp rm
    walk_at "gs"
    refine ⟨s, A.F, ta, false, Tt, a, _, rfl, t16, ha, by walk_at "mem", by walk_at "mem", hh, ?_⟩
    walk_at "gs"
    refine u_askW ⟨hx0, hx1⟩ ?_
    walk_at "gs"
    refine ⟨s, A.F, ta, _, rfl, by walk_at "mem", hh, ?_⟩
    walk_at "gs"
    rw [show ((a : Int) / 8) = ((a / 8 : Nat) : Int) by omega]
    refine ⟨s, A, ta, S, ps, Tt, a / 8, R, rfl, k, t, hp, rm, hh, fun ps' H1 k1 h1 => ?_⟩
    unfold wrS at q
    generalize ownS S Tt (a / 8) = O at *
    clear hh
    have h1 : Hd H1 (frL A.F C A.hl A.pl O.2.1 ps' (tblC tP :: spI CS s A.F ta false :: lstC ta (tbV O.2.2) :: R)) := by rw [frB_app]; exact Hd.sb h1 (by walk_at "sbx")
    walk_at "gs"
    rw [show ((a : Int) % 8) = ((a % 8 : Nat) : Int) by omega]
    refine ⟨A.F, A.hl, A.pl, O.1, a % 8, x, O.2.1, ps', _, rfl, by rw [o3]; exact o1, by omega, hx0, hx1, k1.l, k1.pg, h1, o2, fun ps2 H2 p2 h2 => ?_⟩
    rw [frB_app] at h2
    walk_at "gs"
    refine q ps2 H2 (k1.set (by rw [o3]; exact o1) (fun y hy => ?_) p2) (Hd.sb h2 (by walk_at "sbx"))
    rcases List.mem_or_eq_of_mem_set hy with z | z
    · exact k1.w O.1 (by rw [o3]; exact o1) (by rw [o2]; decide) y z
    · rw [z]; exact ⟨hx0, hx1⟩
end
end
end K05
set_option Elab.async false
set_option linter.all false
set_option maxRecDepth 100000
set_option maxHeartbeats 4000000
namespace K05
open PySem PySem.Spec PyProof.Rows L2 Wk
local macro_rules | `(tactic| walk_at "u1") => `(tactic| fail "no more")
local macro_rules | `(tactic| walk_at "pos") => `(tactic| first | assumption | omega | decide | (simp only [Int.ofNat_eq_natCast] at *; omega))
local macro_rules | `(tactic| walk_at "sz") => `(tactic| first
  | (simp only [List.length_cons, List.length_nil]; decide)
  | exact Evl.sz_of (by omega)
  | exact Evl.sz_lt (by omega)
  | exact Evl.sz_of (by simp only [List.length_map, List.length_append, List.length_cons, List.length_nil, List.length_replicate]; omega)
  | exact Evl.sz_lt (by simp only [List.length_map, List.length_append, List.length_cons, List.length_nil, List.length_replicate]; omega))
local macro_rules | `(tactic| walk_at "cond") => `(tactic| first
  | exact Or.inr ⟨by decide, by decide⟩
  | (show (0 : Int) < _; first | decide | assumption | omega)
  | exact Or.inl ⟨by omega, by omega⟩
  | exact Or.inr ⟨by omega, by omega⟩
  | exact ⟨by decide, by decide, by decide⟩
  | exact log2_lt (by omega) (by omega)
  | exact ⟨by omega, by omega⟩)
local macro_rules | `(tactic| walk_at "ty") => `(tactic| first
  | exact ty_int | exact ty_bl | exact ty_str | exact ty_non
  | exact ty_L (by assumption) | exact ty_T (by assumption)
  | exact ty_L (SqL.of (by assumption)) | exact ty_T (SqT.of (by assumption)))
local macro_rules | `(tactic| walk_at "kit") => `(tactic| first
  | exact k_ii | exact k_ib | exact k_is | exact k_il | exact k_it
  | exact k_bb | exact k_bi | exact k_bs | exact k_bl | exact k_bt
  | exact k_ss | exact k_sb | exact k_si | exact k_sl | exact k_st
  | exact k_ll | exact k_lb | exact k_li | exact k_ls | exact k_lt
  | exact k_tt | exact k_tb | exact k_ti | exact k_ts | exact k_tl
  | exact k_nn | exact k_ni | exact k_ns | exact k_nl | exact k_nt)
local macro_rules | `(tactic| walk_at "s1") => `(tactic| first
  | with_reducible refine w_seq ?_
  | with_reducible refine w_set ?_
  | with_reducible refine w_op ?_
  | ((with_reducible refine' w_var ?h1 ?_); (case h1 => rfl))
  | with_reducible refine w_c ?_
  | with_reducible refine w_cb ?_
  | with_reducible refine w_cons ?_
  | with_reducible refine w_nil ?_
  | with_reducible refine w_I0 ?_
  | ((with_reducible refine' w_I ?c1 ?_); case c1 => walk_at "cond")
  | with_reducible refine w_ret ?_
  | with_reducible refine w_next ?_
  | with_reducible refine w_ifS ?_
  | with_reducible refine w_test ?_
  | with_reducible refine w_tB ?_
  | with_reducible refine w_k ?_
  | with_reducible refine w_eqI ?_
  | with_reducible refine w_neI ?_
  | with_reducible refine w_eqS ?_
  | with_reducible refine w_neS ?_
  | with_reducible refine w_and ?_
  | with_reducible refine w_or ?_
  | with_reducible refine w_not ?_
  | with_reducible refine w_andV ?_
  | with_reducible refine w_orV ?_
  | with_reducible refine w_notV ?_
  | with_reducible refine w_ifE ?_
  | with_reducible refine w_true ?_
  | with_reducible refine w_false ?_
  | with_reducible refine w_ntrue ?_
  | with_reducible refine w_nfalse ?_
  | with_reducible refine w_call ?_
  | with_reducible refine c_int ?_
  | with_reducible refine c_abs ?_
  | with_reducible refine c_max ?_
  | with_reducible refine c_min ?_
  | with_reducible refine w_drop ?_
  | with_reducible refine w_sfld ?_
  | with_reducible refine w_meth ?_
  | with_reducible refine w_make ?_
  | with_reducible refine w_prop ?_
  | with_reducible refine w_callK ?_
  | with_reducible refine w_callN ?_
  | with_reducible refine w_star ?_
  | with_reducible refine w_gcons ?_
  | with_reducible refine w_gname ?_
  | with_reducible refine w_gnil ?_
  | with_reducible refine w_retN ?_
  | with_reducible refine w_tup ?_
  | with_reducible refine w_lst ?_
  | with_reducible refine w_fld ?_
  | with_reducible refine w_bm ?_
  | with_reducible refine w_bm0 ?_
  | with_reducible refine w_forL ?_
  | with_reducible refine w_forT ?_
  | with_reducible refine w_forS ?_
  | with_reducible refine w_forR ?_
  | with_reducible refine w_lcR ?_
  | with_reducible refine w_lcL ?_
  | with_reducible refine w_lcT ?_
  | with_reducible refine w_isN ?_
  | with_reducible refine w_notN ?_
  | with_reducible refine w_asg ?_
  | with_reducible refine w_gsub ?_
  | ((with_reducible refine' w_aug ?h1 ?_); (case h1 => rfl))
  | with_reducible refine w_augS ?_
  | with_reducible refine w_ipI ?_
  | with_reducible refine w_un ?_
  | with_reducible refine w_U ?_
  | ((with_reducible refine' w_iteF ?f1 ?_); case f1 => (first | (intro h; cases h; done) | decide))
  | ((with_reducible refine' w_iteT ?f1 ?_); case f1 => rfl)
  | ((with_reducible refine' w_iteNF ?f1 ?_); case f1 => rfl)
  | ((with_reducible refine' w_iteNT ?f1 ?_); case f1 => (first | (intro h; cases h; done) | decide))
  | ((with_reducible refine' c_isi ?t1 ?k1 ?_); (case t1 => walk_at "ty"); (case k1 => walk_at "kit"))
  | ((with_reducible refine' w_eq ?e1 ?_); case e1 => rfl)
  | ((with_reducible refine' w_ne ?e1 ?_); case e1 => rfl)
  | walk_at "u1")
local macro_rules | `(tactic| walk_at "s") => `(tactic| repeat walk_at "s1")
local macro_rules | `(tactic| walk_at "mem") => `(tactic| first | with_reducible exact List.mem_cons_self .. | ((with_reducible refine' List.mem_cons_of_mem _ ?q); (case q => walk_at "mem")) | assumption | ((with_reducible refine' List.mem_append_right _ ?q); (case q => walk_at "mem")) | (exact List.mem_append_left _ (by assumption)))
local macro_rules | `(tactic| walk_at "pk") => `(tactic| first | with_reducible exact Pk.here | ((with_reducible refine' Pk.there ?q); (case q => walk_at "pk")) | ((with_reducible refine' Pk.app ?q); (case q => walk_at "pk")))
local macro_rules | `(tactic| walk_at "pkb") => `(tactic| first | with_reducible exact PkB.here | ((with_reducible refine' PkB.there ?q); (case q => walk_at "pkb")) | ((with_reducible refine' PkB.app ?q); (case q => walk_at "pkb")))
local macro_rules | `(tactic| walk_at "spl") => `(tactic| first | with_reducible exact Spl.nil | ((with_reducible refine' Spl.cons ?h ?t); (case h => walk_at "pk"); (case t => walk_at "spl")) | ((with_reducible refine' Spl.blk ?h ?t); (case h => walk_at "pkb"); (case t => walk_at "spl")))
local macro_rules | `(tactic| walk_at "sbx") => `(tactic| first | with_reducible exact Sb.refl | with_reducible exact Sb.nil | with_reducible exact Sb.left | ((with_reducible refine' Sb.cons ?h ?t); (case h => walk_at "pk"); (case t => walk_at "sbx")) | ((with_reducible refine' Sb.blk ?h ?t); (case h => walk_at "pkb"); (case t => walk_at "sbx")) | ((with_reducible refine' Sb.drop ?q); (case q => walk_at "sbx")) | ((with_reducible refine' Sb.right ?q); (case q => walk_at "sbx")))
local macro_rules | `(tactic| walk_at "hd") => `(tactic| first | assumption | exact Hd.sb (by assumption) (by walk_at "sbx"))
local macro_rules | `(tactic| walk_at "sq") => `(tactic| first
  | assumption
  | exact Hd.sqL (by assumption) (by walk_at "mem")
  | exact Hd.sqT (by assumption) (by walk_at "mem")
  | exact Hd.sqF (by assumption) (by walk_at "mem")
  | (refine .inl ?_; walk_at "sq")
  | (refine .inr ?_; walk_at "sq"))
local macro_rules | `(tactic| walk_at "at") => `(tactic| first | rfl | assumption | exact atI_nat (by assumption))
local macro_rules | `(tactic| walk_at "dn1") => `(tactic| first
  | exact Dn.int | exact Dn.str | exact Dn.non | exact Dn.bl | assumption
  | ((refine' Dn.tp ?a1 ?m1 ?l1 ?p1); (case a1 => assumption); (case m1 => walk_at "mem"); (case l1 => (simp only [List.length_cons, List.length_nil]; omega)); (case p1 => walk_at "dns"))
  | ((refine' Dn.lt ?a1 ?m1 ?l1 ?p1); (case a1 => assumption); (case m1 => walk_at "mem"); (case l1 => (simp only [List.length_cons, List.length_nil]; omega)); (case p1 => walk_at "dns")))
local macro_rules | `(tactic| walk_at "dns") => `(tactic| first | exact Paired.nil | exact Dn.ints | ((refine' Paired.cons ?a1 ?b1); (case a1 => walk_at "dn1"); (case b1 => walk_at "dns")))
local macro_rules | `(tactic| walk_at "g1") => `(tactic| first
  | ((with_reducible refine' g_ixI ?h1 ?h2 ?h3 ?_); (case h1 => assumption); (case h2 => walk_at "mem"); (case h3 => omega); intro z hz)
  | ((with_reducible refine' g_ixIT ?h1 ?h2 ?h3 ?_); (case h1 => assumption); (case h2 => walk_at "mem"); (case h3 => omega); intro z hz)
  | ((with_reducible refine' g_setI ?h1 ?h2 ?h3 ?_); (case h1 => assumption); (case h2 => walk_at "pk"); (case h3 => omega); intro H2 hh2)
  | ((with_reducible refine' w_ixL ?h1 ?h2 ?_); (case h1 => walk_at "sq"); (case h2 => walk_at "at"))
  | ((with_reducible refine' w_ixT ?h1 ?h2 ?_); (case h1 => walk_at "sq"); (case h2 => walk_at "at"))
  | ((with_reducible refine' w_ixAny ?h1 ?h2 ?_); (case h1 => walk_at "sq"); (case h2 => walk_at "at"))
  | ((with_reducible refine' c_lenA ?h1 ?_); (case h1 => walk_at "sq"))
  | ((with_reducible refine' c_isi ?t1 ?k1 ?_); (case t1 => first | exact ty_T (by walk_at "sq") | exact ty_L (by walk_at "sq")); (case k1 => walk_at "kit"))
  | ((with_reducible refine' g_lst ?h1 ?h2 ?_); (case h1 => assumption); (case h2 => walk_at "sz"); intro p H2 hh2)
  | ((with_reducible refine' g_tup ?h1 ?h2 ?_); (case h1 => assumption); (case h2 => walk_at "sz"); intro p H2 hh2)
  | ((with_reducible refine' g_dict ?h1 ?_); (case h1 => assumption); intro p H2 hh2)
  | ((with_reducible refine' g_listL ?h1 ?h2 ?_); (case h1 => assumption); (case h2 => walk_at "sq"); intro p H2 hh2)
  | ((with_reducible refine' g_listT ?h1 ?h2 ?_); (case h1 => assumption); (case h2 => walk_at "sq"); intro p H2 hh2)
  | ((with_reducible refine' g_tupL ?h1 ?h2 ?_); (case h1 => assumption); (case h2 => walk_at "sq"); intro p H2 hh2)
  | ((with_reducible refine' g_set ?h1 ?h2 ?h3 ?_); (case h1 => assumption); (case h2 => walk_at "pk"); (case h3 => first | rfl | assumption | exact Evl.ixN_nat (by first | omega | (simp only [List.length_cons, List.length_nil]; omega))); intro H2 hh2)
  | ((with_reducible refine' g_kbm ?h1 ?h2 ?_); (case h1 => assumption); (case h2 => walk_at "mem"))
  | ((with_reducible refine' g_kbm0 ?h1 ?h2 ?_); (case h1 => assumption); (case h2 => walk_at "mem"))
  | ((with_reducible refine' g_app ?h1 ?h2 ?h3 ?_); (case h1 => assumption); (case h2 => walk_at "pk"); (case h3 => walk_at "sz"); intro H2 hh2)
  | ((with_reducible refine' g_kapp ?h1 ?h2 ?h3 ?_); (case h1 => assumption); (case h2 => walk_at "pk"); (case h3 => walk_at "sz"); intro H2 hh2)
  | ((with_reducible refine' g_fld ?h1 ?h2 ?h3 ?h4 ?h5 ?_); (case h1 => assumption); (case h2 => walk_at "mem"); (case h3 => assumption); (case h4 => assumption); (case h5 => rfl))
  | ((with_reducible refine' g_sfld ?h1 ?h2 ?h3 ?h4 ?h5 ?_); (case h1 => assumption); (case h2 => walk_at "pk"); (case h3 => assumption); (case h4 => assumption); (case h5 => decide); intro H2 hh2)
  | ((with_reducible refine' g_meth ?h1 ?h2 ?h3 ?_); (case h1 => assumption); (case h2 => walk_at "mem"); (case h3 => rfl))
  | ((with_reducible refine' g_prop ?h1 ?h2 ?_); (case h1 => assumption); (case h2 => walk_at "mem"))
  | ((with_reducible refine' g_make ?h1 ?_); (case h1 => assumption); intro x H2 hh2)
  | ((with_reducible refine' g_cat ?h1 ?h2 ?h3 ?h4 ?_); (case h1 => assumption); (case h2 => walk_at "mem"); (case h3 => walk_at "mem"); (case h4 => walk_at "sz"); intro p H2 hh2)
  | ((with_reducible refine' g_inT ?h1 ?h2 ?h3 ?h4 ?h5 ?_); (case h1 => assumption); (case h2 => walk_at "mem"); (case h3 => rfl); (case h4 => rfl); (case h5 => rfl)))
local macro_rules | `(tactic| walk_at "gs") => `(tactic| repeat first | walk_at "s1" | walk_at "g1")
local macro_rules | `(tactic| walk_at "ite") => `(tactic| first
  | ((with_reducible refine' w_iteT ?h1 ?_); (case h1 => omega))
  | ((with_reducible refine' w_iteF ?h1 ?_); (case h1 => omega))
  | (with_reducible refine w_ite ?_ ?_ <;> intro hq)
  | ((with_reducible refine' w_iteNT ?h1 ?_); (case h1 => omega))
  | ((with_reducible refine' w_iteNF ?h1 ?_); (case h1 => omega))
  | (with_reducible refine w_iteN ?_ ?_ <;> intro hq))
local macro_rules | `(tactic| walk_at "go") => `(tactic| repeat' first | walk_at "s1" | walk_at "g1" | walk_at "ite")
local macro_rules | `(tactic| walk_at "g1") => `(tactic| first
  | ((with_reducible refine' g_take1 ?h1 ?h2 ?h3 ?h4 ?_); (case h1 => assumption); (case h2 => walk_at "spl"); (case h3 => omega); (case h4 => omega); intro k H2 hk1 hh2)
  | ((with_reducible refine' g_take ?h1 ?h2 ?h4 ?_); (case h1 => assumption); (case h2 => walk_at "spl"); (case h4 => omega); intro k H2 hk1 hh2)
  | ((with_reducible refine' g_betweenN ?h1 ?h2 ?h5 ?h3 ?h4 ?_); (case h1 => assumption); (case h2 => walk_at "spl"); (case h5 => omega); (case h3 => omega); (case h4 => omega); intro k H2 hk1 hk2 hh2)
  | ((with_reducible refine' g_between ?h1 ?h2 ?h3 ?h4 ?_); (case h1 => assumption); (case h2 => walk_at "spl"); (case h3 => omega); (case h4 => omega); intro k H2 hk1 hk2 hh2)
  | ((with_reducible refine' g_size ?h1 ?h2 ?h3 ?h4 ?_); (case h1 => assumption); (case h2 => walk_at "spl"); (case h3 => omega); (case h4 => omega); intro k H2 hk1 hh2)
  | ((with_reducible refine' g_word ?h1 ?h2 ?_); (case h1 => assumption); (case h2 => walk_at "spl"); intro k H2 hk1 hh2))
section
variable {P : Program} {w : World} {K : PySem.W.Frag} {mg : Str → Option Value} {base : Heap} {aREG aOPS : Addr}
/-! ### C(e, .., k = v, ..): a class called by place and by name -/
structure MakP (P : Program) (w : World) (K : PySem.W.Frag) (mg : Str → Option Value) (base : Heap) (k : Nat) (x : Str) (C : Addr) (sp : Sp) (n : Nat) (ks : List Str) (gV : List V → List V → List V) : Prop where
  ex : ∃ (f : Addr) (fd : FuncData) (ps : List Str) (g : List Value → List Value → List Value), Mk K C f ∧ FnOk P w K mg base C8.CX0 k f fd ps sp ∧ mg x = some (.ref C) ∧ KBn K fd ps (n + 1) ks g gV
theorem pe_mkP {X : Cx} {k j n : Nat} {C : Addr} {x : Str} {sp : Sp} {ks : List Str} {gV : List V → List V → List V} {e : Expr} {es : List Expr} {kws : List Keyword} {t tk : TA} {p pos : Pos} (c : MakP X.prog X.w X.K X.mg X.base k x C sp n ks gV) (hr : Room j X.A) (hk : k + 1 ≤ j) (hg : Gl X x) (ha : PA X (e :: es) t) (hkw : PK X kws tk)
    (hall : (backToKw pos (keywordEach kws X.env)).all (·.1.isSome) = true := by rfl) (hks : (backToKw pos (keywordEach kws X.env)).filterMap (·.1) = ks := by rfl) (hdb : (x == ("__debug__" : Str)) = false := by decide)
    (he : starEach (e :: es) X.env = (false, eval e X.env) :: starEach es X.env := by rfl) (hpl : ((backTo pos (starEach (e :: es) X.env)).any (·.1) || (backToKw pos (keywordEach kws X.env)).any (·.1.isNone)) = false := by rfl) :
    PE X (.Call (.Name x p) (e :: es) kws pos) (tMakeK C n ks.length sp gV C8.E0 t tk) := by
  obtain ⟨f, fd, ps, g, M, F, hm, b⟩ := c.ex
  exact pe_makeK M F (hr.mono hk) hg hm b C8.pass0 ha hkw hall hks hdb he hpl
theorem hdMade {C x dx : Addr} {L : List Cell} {H : Hp} (hh : Hd H L) (hx : H x = none) (hdx : H dx = none) : Hd (upd (upd H dx (.own x)) x (.ins C dx [])) (insC x C [] :: L) := by
  have u : Upt [] H (upd (upd H dx (.own x)) x (.ins C dx [])) := fun b o _ e => by rw [upd_ne (ne_of_none e hx), upd_ne (ne_of_none e hdx)]; exact e
  exact hh.new (H2 := upd (upd H dx (.own x)) x (.ins C dx [])) (p := x) (o := .ins C dx []) (P := fun o => ∃ dx, o = .ins C dx []) ⟨hx, upd_same, u⟩ ⟨dx, rfl⟩
theorem vals_rev : ∀ {vs : List V} {us : List Value}, Vals vs us → Vals vs.reverse us.reverse
  | _, _, .nil => .nil
  | _, _, .cons r t => by
    rw [List.reverse_cons, List.reverse_cons]
    exact (vals_rev t).append (.cons r .nil)
theorem g_extend {H : Hp} {Q : VK} {L M : List Cell} {p b : Addr} {xs zs : List V} (hh : Hd H L) (m : Pk L (lstC p xs) M) (h2 : lstC b zs ∈ L) (hz : xs.length + zs.length ≤ sizeLine) (q : ∀ H2, Hd H2 (lstC p (xs ++ zs) :: M) → Q .non H2) : rExtend (.ref p) [.ref b] H Q :=
  ⟨p, b, xs, zs, rfl, rfl, (hh.pk m).lst (List.mem_cons_self ..), hh.lst h2, hz, q _ (hh.chgL m Chg.of)⟩
theorem valS_take {S : St1} {T : Tb} {i : Nat} (h : i < T.length) : valS S (T.take (i + 1)) = valS S (T.take i) ++ pgW S (T.getD i none) := by
  unfold valS
  rw [tk_succ (x := T.getD i none) (by rw [List.getD_eq_getElem?_getD, List.getElem?_eq_getElem h]; rfl), List.map_append, List.flatten_append]
  simp
theorem pgW_len {S : St1} {ps : List Pg} {T : Tb} (k : FOk S ps) (t : TOk S T) {o : Option Nat} (h : o ∈ T) : (pgW S o).length = 8 ∧ WdR (pgW S o) := by
  cases o with
  | none => exact ⟨List.length_replicate, fun x hx => by rw [List.eq_of_mem_replicate (show x ∈ List.replicate 8 (0 : Int) from hx)]; omega⟩
  | some f =>
    obtain ⟨h1, h2⟩ := t.e f h
    exact ⟨(k.pg.2 f h1 h2).1, k.w f h1 h2⟩
theorem valS_len {S : St1} {ps : List Pg} {T : Tb} (k : FOk S ps) (t : TOk S T) : ∀ {L : Tb}, (∀ o ∈ L, o ∈ T) → (valS S L).length = 8 * L.length ∧ WdR (valS S L)
  | [], _ => ⟨rfl, fun x hx => nomatch hx⟩
  | o :: L, h => by
    obtain ⟨a, b⟩ := pgW_len k t (h o (.head _))
    obtain ⟨c, d⟩ := valS_len k t (L := L) fun x hx => h x (.tail _ hx)
    have e : valS S (o :: L) = pgW S o ++ valS S L := by unfold valS; simp
    rw [e]
    refine ⟨by rw [List.length_append, List.length_cons]; omega, fun x hx => ?_⟩
    rcases List.mem_append.mp hx with z | z
    · exact b x z
    · exact d x z
theorem add_app : ∀ {A B : Tb} {S : St1}, addT S (A ++ B) = addT (addT S A) B
  | [], _, _ => rfl
  | none :: A, B, S => add_app (A := A)
  | some f :: A, B, S => add_app (A := A)
theorem sub_app : ∀ {A B : Tb} {S : St1}, subT S (A ++ B) = subT (subT S A) B
  | [], _, _ => rfl
  | none :: A, B, S => sub_app (A := A)
  | some f :: A, B, S => sub_app (A := A)
section
variable {C CS tP : Addr}
def sp_cont (C CS : Addr) : Sp := fun vs H Q _ => ∃ (s : Addr) (A : FA) (ta : Addr) (S : St1) (ps : List Pg) (Tt : Tb) (R : List Cell), vs = [.ref s] ∧ FOk S ps ∧ TOk S Tt ∧ Hd H (frB C A S ps ++ (spI CS s A.F ta false :: lstC ta (tbV Tt) :: R)) ∧
  ∀ l H', Hd H' (lstC l ((valS S Tt).map V.int) :: (frB C A S ps ++ (spI CS s A.F ta false :: lstC ta (tbV Tt) :: R))) → Q (.ref l) H'
theorem c_cont (T : Txt K mg aREG aOPS) (L : SpcC K CS) (d : MetAt K CS "contents" "Space.contents" s_Space__contents) (c_Space__ask_unclosed : C8.Met P w K mg base 1 CS "_ask_unclosed" (sp_askU CS) []) (c_Frames_page : C8.Met P w K mg base 5 C "page" (sp_page C) []) : C8.Met P w K mg base 6 CS "contents" (sp_cont C CS) [] := by
  refine mkM d sc_Space__contents (fun _ _ _ _ _ _ us hl => match us, hl with | [_], _ => rfl) (fun vs H Q E h => ?_) (fun f cdv A_ outer s H vs Q E hr h => ?_)
  · obtain ⟨s, A, ta, S, ps, Tt, R, rfl, _⟩ := h
    rfl
  · obtain ⟨s, A, ta, S, ps, Tt, R, rfl, k, t, hh, q⟩ := h
    refine ⟨_, (pss_cons (ps_expr (C8.pe_mt0 c_Space__ask_unclosed hr (by first | decide | omega) (pv 0)))
  (pss_cons (ps_set (i := 1) sc_Space__contents.nd rfl (Or.inl rfl) (pe_lst pa_nil))
  (pss_cons (ps_for PassesOwn.never rfl (pi_list (pe_fld (pv 0) rfl)) (pg_name (i := 2) sc_Space__contents.nd rfl (Or.inl rfl))
    (pss_one (ps_expr (pe_bm PySem.F.plainAttrs_list PySem.F.slot_list_extend PySem.F.type_list_extend mt_extend (pv 1) (pa_cons (pe_ifExp (pt_cmpR op_isN1 (pv 2) pe_non (nomark _)) (pe_op op_rep (pe_lst (pa_cons pe_int pa_nil)) pe_int) (C8.pe_mt c_Frames_page hr (by first | decide | omega) (pe_fld (pv 0) rfl) (pa_cons (pv 2) pa_nil))) pa_nil)))))
  (pss_one (ps_ret (pv 1)))))), ?_⟩
    have hc := L.cl
    have n1 := L.n1
    have n2 := L.n2
    have t16 := t.n16
    have hsl : 2000 < sizeLine := by rw [sizeLine_eq]; decide
    have hl : (tbV Tt).length = Tt.length := List.length_map ..
    walk_at "gs"
    refine ⟨s, A.F, ta, _, rfl, by walk_at "mem", hh, ?_⟩
    walk_at "gs"
    rename_i l0 H1 h1
    have h1 : Hd H1 (lstC l0 ((valS S (Tt.take 0)).map V.int) :: ([] ++ (frB C A S ps ++ (spI CS s A.F ta false :: lstC ta (tbV Tt) :: R)))) := h1
    refine l_list (xs := tbV Tt) (h1.sqL (by walk_at "mem")) (fun i σ H => ∃ (x2 : Option V) (Z : List Cell), σ = [some (.ref s), some (.ref l0), x2] ∧ Hd H (lstC l0 ((valS S (Tt.take i)).map V.int) :: (Z ++ (frB C A S ps ++ (spI CS s A.F ta false :: lstC ta (tbV Tt) :: R))))) ⟨_, [], rfl, h1⟩ (fun i σ H _ ⟨_, _, _, h⟩ => h.sqL (by walk_at "mem")) ?_ ?_
    · rintro i y σ H2 hy ⟨x2, Z, rfl, h2⟩
      clear h1 hh
      have hi : i < Tt.length := by have := (List.getElem?_eq_some_iff.mp hy).1; omega
      rw [tb_at hi] at hy
      cases hy
      have vt := valS_take (S := S) hi
      obtain ⟨vl, _⟩ := valS_len k t (L := Tt.take i) fun o ho => List.mem_of_mem_take ho
      rw [List.length_take] at vl
      have vm : ((valS S (Tt.take i)).map V.int).length = (valS S (Tt.take i)).length := List.length_map ..
      dsimp only [List.set]
      cases e : Tt.getD i none with
      | none =>
        rw [e] at vt
        rw [show tV none = V.non from rfl]
        walk_at "gs"
        rename_i p3 H3 h3
        refine g_rep h3 (by walk_at "mem") (by omega) (by omega) (by decide) fun p4 H4 h4 => ?_
        have h4 : Hd H4 (lstC p4 ((List.replicate 8 (0 : Int)).map V.int) :: lstC p3 [V.int 0] :: lstC l0 ((valS S (Tt.take i)).map V.int) :: (Z ++ (frB C A S ps ++ (spI CS s A.F ta false :: lstC ta (tbV Tt) :: R)))) := h4
        clear h3
        walk_at "gs"
        refine g_extend h4 (by walk_at "pk") (.head _) (by rw [vm, List.length_map, List.length_replicate]; omega) fun H5 h5 => ?_
        walk_at "gs"
        refine ⟨_, lstC p4 ((List.replicate 8 (0 : Int)).map V.int) :: lstC p3 [V.int 0] :: Z, rfl, ?_⟩
        rw [vt, List.map_append]
        exact h5
      | some fr =>
        rw [e] at vt
        obtain ⟨hf, h0⟩ := t.e fr (tb_mem e)
        rw [show tV (some fr) = V.int fr from rfl]
        walk_at "gs"
        have h3 : Hd H2 (frL A.F C A.hl A.pl S ps (lstC l0 ((valS S (Tt.take i)).map V.int) :: (Z ++ (spI CS s A.F ta false :: lstC ta (tbV Tt) :: R)))) := by rw [frB_app]; exact Hd.sb h2 (by walk_at "sbx")
        walk_at "gs"
        refine ⟨A.F, A.hl, A.pl, fr, S, ps, _, rfl, hf, k.l, k.pg, h3, h0, fun pg H4 h4 => ?_⟩
        rw [frB_app] at h4
        clear h2 h3
        have hw8 := (k.pg.2 fr hf h0).1
        walk_at "gs"
        refine g_extend h4 (by walk_at "pk") (.head _) (by rw [vm, List.length_map, hw8]; omega) fun H5 h5 => ?_
        walk_at "gs"
        refine ⟨_, lstC pg ((wat S fr).map V.int) :: Z, rfl, ?_⟩
        rw [vt, List.map_append]
        exact Hd.sb (A := lstC l0 ((valS S (Tt.take i)).map V.int ++ (wat S fr).map V.int) :: lstC pg ((wat S fr).map V.int) :: (Z ++ (frB C A S ps ++ (spI CS s A.F ta false :: lstC ta (tbV Tt) :: R)))) h5 (by walk_at "sbx")
    · rintro σ H2 ⟨x2, Z, rfl, h2⟩
      clear h1
      rw [hl, List.take_length] at h2
      walk_at "gs"
      exact q l0 H2 (Hd.sb h2 (by walk_at "sbx"))
end
end
end K05
set_option Elab.async false
set_option linter.all false
set_option maxRecDepth 100000
set_option maxHeartbeats 4000000
namespace K05
open PySem PySem.Spec PyProof.Rows L2 Wk
local macro_rules | `(tactic| walk_at "u1") => `(tactic| fail "no more")
local macro_rules | `(tactic| walk_at "pos") => `(tactic| first | assumption | omega | decide | (simp only [Int.ofNat_eq_natCast] at *; omega))
local macro_rules | `(tactic| walk_at "sz") => `(tactic| first
  | (simp only [List.length_cons, List.length_nil]; decide)
  | exact Evl.sz_of (by omega)
  | exact Evl.sz_lt (by omega)
  | exact Evl.sz_of (by simp only [List.length_map, List.length_append, List.length_cons, List.length_nil, List.length_replicate]; omega)
  | exact Evl.sz_lt (by simp only [List.length_map, List.length_append, List.length_cons, List.length_nil, List.length_replicate]; omega))
local macro_rules | `(tactic| walk_at "cond") => `(tactic| first
  | exact Or.inr ⟨by decide, by decide⟩
  | (show (0 : Int) < _; first | decide | assumption | omega)
  | exact Or.inl ⟨by omega, by omega⟩
  | exact Or.inr ⟨by omega, by omega⟩
  | exact ⟨by decide, by decide, by decide⟩
  | exact log2_lt (by omega) (by omega)
  | exact ⟨by omega, by omega⟩)
local macro_rules | `(tactic| walk_at "ty") => `(tactic| first
  | exact ty_int | exact ty_bl | exact ty_str | exact ty_non
  | exact ty_L (by assumption) | exact ty_T (by assumption)
  | exact ty_L (SqL.of (by assumption)) | exact ty_T (SqT.of (by assumption)))
local macro_rules | `(tactic| walk_at "kit") => `(tactic| first
  | exact k_ii | exact k_ib | exact k_is | exact k_il | exact k_it
  | exact k_bb | exact k_bi | exact k_bs | exact k_bl | exact k_bt
  | exact k_ss | exact k_sb | exact k_si | exact k_sl | exact k_st
  | exact k_ll | exact k_lb | exact k_li | exact k_ls | exact k_lt
  | exact k_tt | exact k_tb | exact k_ti | exact k_ts | exact k_tl
  | exact k_nn | exact k_ni | exact k_ns | exact k_nl | exact k_nt)
local macro_rules | `(tactic| walk_at "s1") => `(tactic| first
  | with_reducible refine w_seq ?_
  | with_reducible refine w_set ?_
  | with_reducible refine w_op ?_
  | ((with_reducible refine' w_var ?h1 ?_); (case h1 => rfl))
  | with_reducible refine w_c ?_
  | with_reducible refine w_cb ?_
  | with_reducible refine w_cons ?_
  | with_reducible refine w_nil ?_
  | with_reducible refine w_I0 ?_
  | ((with_reducible refine' w_I ?c1 ?_); case c1 => walk_at "cond")
  | with_reducible refine w_ret ?_
  | with_reducible refine w_next ?_
  | with_reducible refine w_ifS ?_
  | with_reducible refine w_test ?_
  | with_reducible refine w_tB ?_
  | with_reducible refine w_k ?_
  | with_reducible refine w_eqI ?_
  | with_reducible refine w_neI ?_
  | with_reducible refine w_eqS ?_
  | with_reducible refine w_neS ?_
  | with_reducible refine w_and ?_
  | with_reducible refine w_or ?_
  | with_reducible refine w_not ?_
  | with_reducible refine w_andV ?_
  | with_reducible refine w_orV ?_
  | with_reducible refine w_notV ?_
  | with_reducible refine w_ifE ?_
  | with_reducible refine w_true ?_
  | with_reducible refine w_false ?_
  | with_reducible refine w_ntrue ?_
  | with_reducible refine w_nfalse ?_
  | with_reducible refine w_call ?_
  | with_reducible refine c_int ?_
  | with_reducible refine c_abs ?_
  | with_reducible refine c_max ?_
  | with_reducible refine c_min ?_
  | with_reducible refine w_drop ?_
  | with_reducible refine w_sfld ?_
  | with_reducible refine w_meth ?_
  | with_reducible refine w_make ?_
  | with_reducible refine w_prop ?_
  | with_reducible refine w_callK ?_
  | with_reducible refine w_callN ?_
  | with_reducible refine w_star ?_
  | with_reducible refine w_gcons ?_
  | with_reducible refine w_gname ?_
  | with_reducible refine w_gnil ?_
  | with_reducible refine w_retN ?_
  | with_reducible refine w_tup ?_
  | with_reducible refine w_lst ?_
  | with_reducible refine w_fld ?_
  | with_reducible refine w_bm ?_
  | with_reducible refine w_bm0 ?_
  | with_reducible refine w_forL ?_
  | with_reducible refine w_forT ?_
  | with_reducible refine w_forS ?_
  | with_reducible refine w_forR ?_
  | with_reducible refine w_lcR ?_
  | with_reducible refine w_lcL ?_
  | with_reducible refine w_lcT ?_
  | with_reducible refine w_isN ?_
  | with_reducible refine w_notN ?_
  | with_reducible refine w_asg ?_
  | with_reducible refine w_gsub ?_
  | ((with_reducible refine' w_aug ?h1 ?_); (case h1 => rfl))
  | with_reducible refine w_augS ?_
  | with_reducible refine w_ipI ?_
  | with_reducible refine w_un ?_
  | with_reducible refine w_U ?_
  | ((with_reducible refine' w_iteF ?f1 ?_); case f1 => (first | (intro h; cases h; done) | decide))
  | ((with_reducible refine' w_iteT ?f1 ?_); case f1 => rfl)
  | ((with_reducible refine' w_iteNF ?f1 ?_); case f1 => rfl)
  | ((with_reducible refine' w_iteNT ?f1 ?_); case f1 => (first | (intro h; cases h; done) | decide))
  | ((with_reducible refine' c_isi ?t1 ?k1 ?_); (case t1 => walk_at "ty"); (case k1 => walk_at "kit"))
  | ((with_reducible refine' w_eq ?e1 ?_); case e1 => rfl)
  | ((with_reducible refine' w_ne ?e1 ?_); case e1 => rfl)
  | walk_at "u1")
local macro_rules | `(tactic| walk_at "s") => `(tactic| repeat walk_at "s1")
local macro_rules | `(tactic| walk_at "mem") => `(tactic| first | with_reducible exact List.mem_cons_self .. | ((with_reducible refine' List.mem_cons_of_mem _ ?q); (case q => walk_at "mem")) | assumption | ((with_reducible refine' List.mem_append_right _ ?q); (case q => walk_at "mem")) | (exact List.mem_append_left _ (by assumption)))
local macro_rules | `(tactic| walk_at "pk") => `(tactic| first | with_reducible exact Pk.here | ((with_reducible refine' Pk.there ?q); (case q => walk_at "pk")) | ((with_reducible refine' Pk.app ?q); (case q => walk_at "pk")))
local macro_rules | `(tactic| walk_at "pkb") => `(tactic| first | with_reducible exact PkB.here | ((with_reducible refine' PkB.there ?q); (case q => walk_at "pkb")) | ((with_reducible refine' PkB.app ?q); (case q => walk_at "pkb")))
local macro_rules | `(tactic| walk_at "spl") => `(tactic| first | with_reducible exact Spl.nil | ((with_reducible refine' Spl.cons ?h ?t); (case h => walk_at "pk"); (case t => walk_at "spl")) | ((with_reducible refine' Spl.blk ?h ?t); (case h => walk_at "pkb"); (case t => walk_at "spl")))
local macro_rules | `(tactic| walk_at "sbx") => `(tactic| first | with_reducible exact Sb.refl | with_reducible exact Sb.nil | with_reducible exact Sb.left | ((with_reducible refine' Sb.cons ?h ?t); (case h => walk_at "pk"); (case t => walk_at "sbx")) | ((with_reducible refine' Sb.blk ?h ?t); (case h => walk_at "pkb"); (case t => walk_at "sbx")) | ((with_reducible refine' Sb.drop ?q); (case q => walk_at "sbx")) | ((with_reducible refine' Sb.right ?q); (case q => walk_at "sbx")))
local macro_rules | `(tactic| walk_at "hd") => `(tactic| first | assumption | exact Hd.sb (by assumption) (by walk_at "sbx"))
local macro_rules | `(tactic| walk_at "sq") => `(tactic| first
  | assumption
  | exact Hd.sqL (by assumption) (by walk_at "mem")
  | exact Hd.sqT (by assumption) (by walk_at "mem")
  | exact Hd.sqF (by assumption) (by walk_at "mem")
  | (refine .inl ?_; walk_at "sq")
  | (refine .inr ?_; walk_at "sq"))
local macro_rules | `(tactic| walk_at "at") => `(tactic| first | rfl | assumption | exact atI_nat (by assumption))
local macro_rules | `(tactic| walk_at "dn1") => `(tactic| first
  | exact Dn.int | exact Dn.str | exact Dn.non | exact Dn.bl | assumption
  | ((refine' Dn.tp ?a1 ?m1 ?l1 ?p1); (case a1 => assumption); (case m1 => walk_at "mem"); (case l1 => (simp only [List.length_cons, List.length_nil]; omega)); (case p1 => walk_at "dns"))
  | ((refine' Dn.lt ?a1 ?m1 ?l1 ?p1); (case a1 => assumption); (case m1 => walk_at "mem"); (case l1 => (simp only [List.length_cons, List.length_nil]; omega)); (case p1 => walk_at "dns")))
local macro_rules | `(tactic| walk_at "dns") => `(tactic| first | exact Paired.nil | exact Dn.ints | ((refine' Paired.cons ?a1 ?b1); (case a1 => walk_at "dn1"); (case b1 => walk_at "dns")))
local macro_rules | `(tactic| walk_at "g1") => `(tactic| first
  | ((with_reducible refine' g_ixI ?h1 ?h2 ?h3 ?_); (case h1 => assumption); (case h2 => walk_at "mem"); (case h3 => omega); intro z hz)
  | ((with_reducible refine' g_ixIT ?h1 ?h2 ?h3 ?_); (case h1 => assumption); (case h2 => walk_at "mem"); (case h3 => omega); intro z hz)
  | ((with_reducible refine' g_setI ?h1 ?h2 ?h3 ?_); (case h1 => assumption); (case h2 => walk_at "pk"); (case h3 => omega); intro H2 hh2)
  | ((with_reducible refine' w_ixL ?h1 ?h2 ?_); (case h1 => walk_at "sq"); (case h2 => walk_at "at"))
  | ((with_reducible refine' w_ixT ?h1 ?h2 ?_); (case h1 => walk_at "sq"); (case h2 => walk_at "at"))
  | ((with_reducible refine' w_ixAny ?h1 ?h2 ?_); (case h1 => walk_at "sq"); (case h2 => walk_at "at"))
  | ((with_reducible refine' c_lenA ?h1 ?_); (case h1 => walk_at "sq"))
  | ((with_reducible refine' c_isi ?t1 ?k1 ?_); (case t1 => first | exact ty_T (by walk_at "sq") | exact ty_L (by walk_at "sq")); (case k1 => walk_at "kit"))
  | ((with_reducible refine' g_lst ?h1 ?h2 ?_); (case h1 => assumption); (case h2 => walk_at "sz"); intro p H2 hh2)
  | ((with_reducible refine' g_tup ?h1 ?h2 ?_); (case h1 => assumption); (case h2 => walk_at "sz"); intro p H2 hh2)
  | ((with_reducible refine' g_dict ?h1 ?_); (case h1 => assumption); intro p H2 hh2)
  | ((with_reducible refine' g_listL ?h1 ?h2 ?_); (case h1 => assumption); (case h2 => walk_at "sq"); intro p H2 hh2)
  | ((with_reducible refine' g_listT ?h1 ?h2 ?_); (case h1 => assumption); (case h2 => walk_at "sq"); intro p H2 hh2)
  | ((with_reducible refine' g_tupL ?h1 ?h2 ?_); (case h1 => assumption); (case h2 => walk_at "sq"); intro p H2 hh2)
  | ((with_reducible refine' g_set ?h1 ?h2 ?h3 ?_); (case h1 => assumption); (case h2 => walk_at "pk"); (case h3 => first | rfl | assumption | exact Evl.ixN_nat (by first | omega | (simp only [List.length_cons, List.length_nil]; omega))); intro H2 hh2)
  | ((with_reducible refine' g_kbm ?h1 ?h2 ?_); (case h1 => assumption); (case h2 => walk_at "mem"))
  | ((with_reducible refine' g_kbm0 ?h1 ?h2 ?_); (case h1 => assumption); (case h2 => walk_at "mem"))
  | ((with_reducible refine' g_app ?h1 ?h2 ?h3 ?_); (case h1 => assumption); (case h2 => walk_at "pk"); (case h3 => walk_at "sz"); intro H2 hh2)
  | ((with_reducible refine' g_kapp ?h1 ?h2 ?h3 ?_); (case h1 => assumption); (case h2 => walk_at "pk"); (case h3 => walk_at "sz"); intro H2 hh2)
  | ((with_reducible refine' g_fld ?h1 ?h2 ?h3 ?h4 ?h5 ?_); (case h1 => assumption); (case h2 => walk_at "mem"); (case h3 => assumption); (case h4 => assumption); (case h5 => rfl))
  | ((with_reducible refine' g_sfld ?h1 ?h2 ?h3 ?h4 ?h5 ?_); (case h1 => assumption); (case h2 => walk_at "pk"); (case h3 => assumption); (case h4 => assumption); (case h5 => decide); intro H2 hh2)
  | ((with_reducible refine' g_meth ?h1 ?h2 ?h3 ?_); (case h1 => assumption); (case h2 => walk_at "mem"); (case h3 => rfl))
  | ((with_reducible refine' g_prop ?h1 ?h2 ?_); (case h1 => assumption); (case h2 => walk_at "mem"))
  | ((with_reducible refine' g_make ?h1 ?_); (case h1 => assumption); intro x H2 hh2)
  | ((with_reducible refine' g_cat ?h1 ?h2 ?h3 ?h4 ?_); (case h1 => assumption); (case h2 => walk_at "mem"); (case h3 => walk_at "mem"); (case h4 => walk_at "sz"); intro p H2 hh2)
  | ((with_reducible refine' g_inT ?h1 ?h2 ?h3 ?h4 ?h5 ?_); (case h1 => assumption); (case h2 => walk_at "mem"); (case h3 => rfl); (case h4 => rfl); (case h5 => rfl)))
local macro_rules | `(tactic| walk_at "gs") => `(tactic| repeat first | walk_at "s1" | walk_at "g1")
local macro_rules | `(tactic| walk_at "ite") => `(tactic| first
  | ((with_reducible refine' w_iteT ?h1 ?_); (case h1 => omega))
  | ((with_reducible refine' w_iteF ?h1 ?_); (case h1 => omega))
  | (with_reducible refine w_ite ?_ ?_ <;> intro hq)
  | ((with_reducible refine' w_iteNT ?h1 ?_); (case h1 => omega))
  | ((with_reducible refine' w_iteNF ?h1 ?_); (case h1 => omega))
  | (with_reducible refine w_iteN ?_ ?_ <;> intro hq))
local macro_rules | `(tactic| walk_at "go") => `(tactic| repeat' first | walk_at "s1" | walk_at "g1" | walk_at "ite")
local macro_rules | `(tactic| walk_at "g1") => `(tactic| first
  | ((with_reducible refine' g_take1 ?h1 ?h2 ?h3 ?h4 ?_); (case h1 => assumption); (case h2 => walk_at "spl"); (case h3 => omega); (case h4 => omega); intro k H2 hk1 hh2)
  | ((with_reducible refine' g_take ?h1 ?h2 ?h4 ?_); (case h1 => assumption); (case h2 => walk_at "spl"); (case h4 => omega); intro k H2 hk1 hh2)
  | ((with_reducible refine' g_betweenN ?h1 ?h2 ?h5 ?h3 ?h4 ?_); (case h1 => assumption); (case h2 => walk_at "spl"); (case h5 => omega); (case h3 => omega); (case h4 => omega); intro k H2 hk1 hk2 hh2)
  | ((with_reducible refine' g_between ?h1 ?h2 ?h3 ?h4 ?_); (case h1 => assumption); (case h2 => walk_at "spl"); (case h3 => omega); (case h4 => omega); intro k H2 hk1 hk2 hh2)
  | ((with_reducible refine' g_size ?h1 ?h2 ?h3 ?h4 ?_); (case h1 => assumption); (case h2 => walk_at "spl"); (case h3 => omega); (case h4 => omega); intro k H2 hk1 hh2)
  | ((with_reducible refine' g_word ?h1 ?h2 ?_); (case h1 => assumption); (case h2 => walk_at "spl"); intro k H2 hk1 hh2))
section
variable {P : Program} {w : World} {K : PySem.W.Frag} {mg : Str → Option Value} {base : Heap} {aREG aOPS : Addr}
section
variable {C CS tP : Addr}
section
variable {f : Addr} {fd : FuncData} (T : Txt K mg aREG aOPS) (L : SpcC K CS) (F : SpF K f fd) (M : Mk K CS f) (hm : mg "Space" = some (.ref CS)) (c_ask_range : C8.Cal P w K mg base 3 "ask_range" (sp_ask K) [])
include T L F M hm c_ask_range
/-- Space(frames) -/
theorem c_sp0 : C8.Mak P w K mg base 4 "Space" CS (sp_spI CS) [.int 4] := by
  obtain ⟨ds, r, b⟩ := F.binds0 (ps := ["self", "frames", "pages"]) 2 (by simp) rfl (fun D doc pm an cdv ct us ks h1 h2 => match us, ks, h1, h2 with | [_, _], [_], _, _ => ⟨_, _, _, _, _, _, rfl, rfl, rfl⟩)
  exact ⟨f, fd, _, ds, M, fo_spI T L F c_ask_range, hm, b, r⟩
/-- Space(frames, pages=n) -/
theorem ck_sp1 : MakP P w K mg base 4 "Space" CS (sp_spI CS) 1 ["pages"] (fun vs zs => vs ++ zs) :=
  ⟨f, fd, ["self", "frames", "pages"], fun us ws => us ++ ws, M, fo_spI T L F c_ask_range, hm, kbnK F (fun r1 r2 => r1.append r2) fun _ _ _ _ _ _ us ws h1 h2 => match us, ws, h1, h2 with | [_, _], [_], _, _ => rfl⟩
/-- Space(pages=n, frames=F) -/
theorem ck_sp2 : MakK P w K mg base 4 "Space" CS (sp_spI CS) ["pages", "frames"] (fun vs zs => vs ++ zs.reverse) :=
  ⟨f, fd, ["self", "frames", "pages"], fun us ws => us ++ ws.reverse, M, fo_spI T L F c_ask_range, hm, kbnK F (fun r1 r2 => r1.append (vals_rev r2)) fun _ _ _ _ _ _ us ws h1 h2 => match us, ws, h1, h2 with | [_], [_, _], _, _ => rfl⟩
end
end
end
end K05
set_option Elab.async false
set_option linter.all false
set_option maxRecDepth 100000
set_option maxHeartbeats 4000000
namespace K05
open PySem PySem.Spec PyProof.Rows L2 Wk
local macro_rules | `(tactic| walk_at "u1") => `(tactic| fail "no more")
local macro_rules | `(tactic| walk_at "pos") => `(tactic| first | assumption | omega | decide | (simp only [Int.ofNat_eq_natCast] at *; omega))
local macro_rules | `(tactic| walk_at "sz") => `(tactic| first
  | (simp only [List.length_cons, List.length_nil]; decide)
  | exact Evl.sz_of (by omega)
  | exact Evl.sz_lt (by omega)
  | exact Evl.sz_of (by simp only [List.length_map, List.length_append, List.length_cons, List.length_nil, List.length_replicate]; omega)
  | exact Evl.sz_lt (by simp only [List.length_map, List.length_append, List.length_cons, List.length_nil, List.length_replicate]; omega))
local macro_rules | `(tactic| walk_at "cond") => `(tactic| first
  | exact Or.inr ⟨by decide, by decide⟩
  | (show (0 : Int) < _; first | decide | assumption | omega)
  | exact Or.inl ⟨by omega, by omega⟩
  | exact Or.inr ⟨by omega, by omega⟩
  | exact ⟨by decide, by decide, by decide⟩
  | exact log2_lt (by omega) (by omega)
  | exact ⟨by omega, by omega⟩)
local macro_rules | `(tactic| walk_at "ty") => `(tactic| first
  | exact ty_int | exact ty_bl | exact ty_str | exact ty_non
  | exact ty_L (by assumption) | exact ty_T (by assumption)
  | exact ty_L (SqL.of (by assumption)) | exact ty_T (SqT.of (by assumption)))
local macro_rules | `(tactic| walk_at "kit") => `(tactic| first
  | exact k_ii | exact k_ib | exact k_is | exact k_il | exact k_it
  | exact k_bb | exact k_bi | exact k_bs | exact k_bl | exact k_bt
  | exact k_ss | exact k_sb | exact k_si | exact k_sl | exact k_st
  | exact k_ll | exact k_lb | exact k_li | exact k_ls | exact k_lt
  | exact k_tt | exact k_tb | exact k_ti | exact k_ts | exact k_tl
  | exact k_nn | exact k_ni | exact k_ns | exact k_nl | exact k_nt)
local macro_rules | `(tactic| walk_at "s1") => `(tactic| first
  | with_reducible refine w_seq ?_
  | with_reducible refine w_set ?_
  | with_reducible refine w_op ?_
  | ((with_reducible refine' w_var ?h1 ?_); (case h1 => rfl))
  | with_reducible refine w_c ?_
  | with_reducible refine w_cb ?_
  | with_reducible refine w_cons ?_
  | with_reducible refine w_nil ?_
  | with_reducible refine w_I0 ?_
  | ((with_reducible refine' w_I ?c1 ?_); case c1 => walk_at "cond")
  | with_reducible refine w_ret ?_
  | with_reducible refine w_next ?_
  | with_reducible refine w_ifS ?_
  | with_reducible refine w_test ?_
  | with_reducible refine w_tB ?_
  | with_reducible refine w_k ?_
  | with_reducible refine w_eqI ?_
  | with_reducible refine w_neI ?_
  | with_reducible refine w_eqS ?_
  | with_reducible refine w_neS ?_
  | with_reducible refine w_and ?_
  | with_reducible refine w_or ?_
  | with_reducible refine w_not ?_
  | with_reducible refine w_andV ?_
  | with_reducible refine w_orV ?_
  | with_reducible refine w_notV ?_
  | with_reducible refine w_ifE ?_
  | with_reducible refine w_true ?_
  | with_reducible refine w_false ?_
  | with_reducible refine w_ntrue ?_
  | with_reducible refine w_nfalse ?_
  | with_reducible refine w_call ?_
  | with_reducible refine c_int ?_
  | with_reducible refine c_abs ?_
  | with_reducible refine c_max ?_
  | with_reducible refine c_min ?_
  | with_reducible refine w_drop ?_
  | with_reducible refine w_sfld ?_
  | with_reducible refine w_meth ?_
  | with_reducible refine w_make ?_
  | with_reducible refine w_prop ?_
  | with_reducible refine w_callK ?_
  | with_reducible refine w_callN ?_
  | with_reducible refine w_star ?_
  | with_reducible refine w_gcons ?_
  | with_reducible refine w_gname ?_
  | with_reducible refine w_gnil ?_
  | with_reducible refine w_retN ?_
  | with_reducible refine w_tup ?_
  | with_reducible refine w_lst ?_
  | with_reducible refine w_fld ?_
  | with_reducible refine w_bm ?_
  | with_reducible refine w_bm0 ?_
  | with_reducible refine w_forL ?_
  | with_reducible refine w_forT ?_
  | with_reducible refine w_forS ?_
  | with_reducible refine w_forR ?_
  | with_reducible refine w_lcR ?_
  | with_reducible refine w_lcL ?_
  | with_reducible refine w_lcT ?_
  | with_reducible refine w_isN ?_
  | with_reducible refine w_notN ?_
  | with_reducible refine w_asg ?_
  | with_reducible refine w_gsub ?_
  | ((with_reducible refine' w_aug ?h1 ?_); (case h1 => rfl))
  | with_reducible refine w_augS ?_
  | with_reducible refine w_ipI ?_
  | with_reducible refine w_un ?_
  | with_reducible refine w_U ?_
  | ((with_reducible refine' w_iteF ?f1 ?_); case f1 => (first | (intro h; cases h; done) | decide))
  | ((with_reducible refine' w_iteT ?f1 ?_); case f1 => rfl)
  | ((with_reducible refine' w_iteNF ?f1 ?_); case f1 => rfl)
  | ((with_reducible refine' w_iteNT ?f1 ?_); case f1 => (first | (intro h; cases h; done) | decide))
  | ((with_reducible refine' c_isi ?t1 ?k1 ?_); (case t1 => walk_at "ty"); (case k1 => walk_at "kit"))
  | ((with_reducible refine' w_eq ?e1 ?_); case e1 => rfl)
  | ((with_reducible refine' w_ne ?e1 ?_); case e1 => rfl)
  | walk_at "u1")
local macro_rules | `(tactic| walk_at "s") => `(tactic| repeat walk_at "s1")
local macro_rules | `(tactic| walk_at "mem") => `(tactic| first | with_reducible exact List.mem_cons_self .. | ((with_reducible refine' List.mem_cons_of_mem _ ?q); (case q => walk_at "mem")) | assumption | ((with_reducible refine' List.mem_append_right _ ?q); (case q => walk_at "mem")) | (exact List.mem_append_left _ (by assumption)))
local macro_rules | `(tactic| walk_at "pk") => `(tactic| first | with_reducible exact Pk.here | ((with_reducible refine' Pk.there ?q); (case q => walk_at "pk")) | ((with_reducible refine' Pk.app ?q); (case q => walk_at "pk")))
local macro_rules | `(tactic| walk_at "pkb") => `(tactic| first | with_reducible exact PkB.here | ((with_reducible refine' PkB.there ?q); (case q => walk_at "pkb")) | ((with_reducible refine' PkB.app ?q); (case q => walk_at "pkb")))
local macro_rules | `(tactic| walk_at "spl") => `(tactic| first | with_reducible exact Spl.nil | ((with_reducible refine' Spl.cons ?h ?t); (case h => walk_at "pk"); (case t => walk_at "spl")) | ((with_reducible refine' Spl.blk ?h ?t); (case h => walk_at "pkb"); (case t => walk_at "spl")))
local macro_rules | `(tactic| walk_at "sbx") => `(tactic| first | with_reducible exact Sb.refl | with_reducible exact Sb.nil | with_reducible exact Sb.left | ((with_reducible refine' Sb.cons ?h ?t); (case h => walk_at "pk"); (case t => walk_at "sbx")) | ((with_reducible refine' Sb.blk ?h ?t); (case h => walk_at "pkb"); (case t => walk_at "sbx")) | ((with_reducible refine' Sb.drop ?q); (case q => walk_at "sbx")) | ((with_reducible refine' Sb.right ?q); (case q => walk_at "sbx")))
local macro_rules | `(tactic| walk_at "hd") => `(tactic| first | assumption | exact Hd.sb (by assumption) (by walk_at "sbx"))
local macro_rules | `(tactic| walk_at "sq") => `(tactic| first
  | assumption
  | exact Hd.sqL (by assumption) (by walk_at "mem")
  | exact Hd.sqT (by assumption) (by walk_at "mem")
  | exact Hd.sqF (by assumption) (by walk_at "mem")
  | (refine .inl ?_; walk_at "sq")
  | (refine .inr ?_; walk_at "sq"))
local macro_rules | `(tactic| walk_at "at") => `(tactic| first | rfl | assumption | exact atI_nat (by assumption))
local macro_rules | `(tactic| walk_at "dn1") => `(tactic| first
  | exact Dn.int | exact Dn.str | exact Dn.non | exact Dn.bl | assumption
  | ((refine' Dn.tp ?a1 ?m1 ?l1 ?p1); (case a1 => assumption); (case m1 => walk_at "mem"); (case l1 => (simp only [List.length_cons, List.length_nil]; omega)); (case p1 => walk_at "dns"))
  | ((refine' Dn.lt ?a1 ?m1 ?l1 ?p1); (case a1 => assumption); (case m1 => walk_at "mem"); (case l1 => (simp only [List.length_cons, List.length_nil]; omega)); (case p1 => walk_at "dns")))
local macro_rules | `(tactic| walk_at "dns") => `(tactic| first | exact Paired.nil | exact Dn.ints | ((refine' Paired.cons ?a1 ?b1); (case a1 => walk_at "dn1"); (case b1 => walk_at "dns")))
local macro_rules | `(tactic| walk_at "g1") => `(tactic| first
  | ((with_reducible refine' g_ixI ?h1 ?h2 ?h3 ?_); (case h1 => assumption); (case h2 => walk_at "mem"); (case h3 => omega); intro z hz)
  | ((with_reducible refine' g_ixIT ?h1 ?h2 ?h3 ?_); (case h1 => assumption); (case h2 => walk_at "mem"); (case h3 => omega); intro z hz)
  | ((with_reducible refine' g_setI ?h1 ?h2 ?h3 ?_); (case h1 => assumption); (case h2 => walk_at "pk"); (case h3 => omega); intro H2 hh2)
  | ((with_reducible refine' w_ixL ?h1 ?h2 ?_); (case h1 => walk_at "sq"); (case h2 => walk_at "at"))
  | ((with_reducible refine' w_ixT ?h1 ?h2 ?_); (case h1 => walk_at "sq"); (case h2 => walk_at "at"))
  | ((with_reducible refine' w_ixAny ?h1 ?h2 ?_); (case h1 => walk_at "sq"); (case h2 => walk_at "at"))
  | ((with_reducible refine' c_lenA ?h1 ?_); (case h1 => walk_at "sq"))
  | ((with_reducible refine' c_isi ?t1 ?k1 ?_); (case t1 => first | exact ty_T (by walk_at "sq") | exact ty_L (by walk_at "sq")); (case k1 => walk_at "kit"))
  | ((with_reducible refine' g_lst ?h1 ?h2 ?_); (case h1 => assumption); (case h2 => walk_at "sz"); intro p H2 hh2)
  | ((with_reducible refine' g_tup ?h1 ?h2 ?_); (case h1 => assumption); (case h2 => walk_at "sz"); intro p H2 hh2)
  | ((with_reducible refine' g_dict ?h1 ?_); (case h1 => assumption); intro p H2 hh2)
  | ((with_reducible refine' g_listL ?h1 ?h2 ?_); (case h1 => assumption); (case h2 => walk_at "sq"); intro p H2 hh2)
  | ((with_reducible refine' g_listT ?h1 ?h2 ?_); (case h1 => assumption); (case h2 => walk_at "sq"); intro p H2 hh2)
  | ((with_reducible refine' g_tupL ?h1 ?h2 ?_); (case h1 => assumption); (case h2 => walk_at "sq"); intro p H2 hh2)
  | ((with_reducible refine' g_set ?h1 ?h2 ?h3 ?_); (case h1 => assumption); (case h2 => walk_at "pk"); (case h3 => first | rfl | assumption | exact Evl.ixN_nat (by first | omega | (simp only [List.length_cons, List.length_nil]; omega))); intro H2 hh2)
  | ((with_reducible refine' g_kbm ?h1 ?h2 ?_); (case h1 => assumption); (case h2 => walk_at "mem"))
  | ((with_reducible refine' g_kbm0 ?h1 ?h2 ?_); (case h1 => assumption); (case h2 => walk_at "mem"))
  | ((with_reducible refine' g_app ?h1 ?h2 ?h3 ?_); (case h1 => assumption); (case h2 => walk_at "pk"); (case h3 => walk_at "sz"); intro H2 hh2)
  | ((with_reducible refine' g_kapp ?h1 ?h2 ?h3 ?_); (case h1 => assumption); (case h2 => walk_at "pk"); (case h3 => walk_at "sz"); intro H2 hh2)
  | ((with_reducible refine' g_fld ?h1 ?h2 ?h3 ?h4 ?h5 ?_); (case h1 => assumption); (case h2 => walk_at "mem"); (case h3 => assumption); (case h4 => assumption); (case h5 => rfl))
  | ((with_reducible refine' g_sfld ?h1 ?h2 ?h3 ?h4 ?h5 ?_); (case h1 => assumption); (case h2 => walk_at "pk"); (case h3 => assumption); (case h4 => assumption); (case h5 => decide); intro H2 hh2)
  | ((with_reducible refine' g_meth ?h1 ?h2 ?h3 ?_); (case h1 => assumption); (case h2 => walk_at "mem"); (case h3 => rfl))
  | ((with_reducible refine' g_prop ?h1 ?h2 ?_); (case h1 => assumption); (case h2 => walk_at "mem"))
  | ((with_reducible refine' g_make ?h1 ?_); (case h1 => assumption); intro x H2 hh2)
  | ((with_reducible refine' g_cat ?h1 ?h2 ?h3 ?h4 ?_); (case h1 => assumption); (case h2 => walk_at "mem"); (case h3 => walk_at "mem"); (case h4 => walk_at "sz"); intro p H2 hh2)
  | ((with_reducible refine' g_inT ?h1 ?h2 ?h3 ?h4 ?h5 ?_); (case h1 => assumption); (case h2 => walk_at "mem"); (case h3 => rfl); (case h4 => rfl); (case h5 => rfl)))
local macro_rules | `(tactic| walk_at "gs") => `(tactic| repeat first | walk_at "s1" | walk_at "g1")
local macro_rules | `(tactic| walk_at "ite") => `(tactic| first
  | ((with_reducible refine' w_iteT ?h1 ?_); (case h1 => omega))
  | ((with_reducible refine' w_iteF ?h1 ?_); (case h1 => omega))
  | (with_reducible refine w_ite ?_ ?_ <;> intro hq)
  | ((with_reducible refine' w_iteNT ?h1 ?_); (case h1 => omega))
  | ((with_reducible refine' w_iteNF ?h1 ?_); (case h1 => omega))
  | (with_reducible refine w_iteN ?_ ?_ <;> intro hq))
local macro_rules | `(tactic| walk_at "go") => `(tactic| repeat' first | walk_at "s1" | walk_at "g1" | walk_at "ite")
local macro_rules | `(tactic| walk_at "g1") => `(tactic| first
  | ((with_reducible refine' g_take1 ?h1 ?h2 ?h3 ?h4 ?_); (case h1 => assumption); (case h2 => walk_at "spl"); (case h3 => omega); (case h4 => omega); intro k H2 hk1 hh2)
  | ((with_reducible refine' g_take ?h1 ?h2 ?h4 ?_); (case h1 => assumption); (case h2 => walk_at "spl"); (case h4 => omega); intro k H2 hk1 hh2)
  | ((with_reducible refine' g_betweenN ?h1 ?h2 ?h5 ?h3 ?h4 ?_); (case h1 => assumption); (case h2 => walk_at "spl"); (case h5 => omega); (case h3 => omega); (case h4 => omega); intro k H2 hk1 hk2 hh2)
  | ((with_reducible refine' g_between ?h1 ?h2 ?h3 ?h4 ?_); (case h1 => assumption); (case h2 => walk_at "spl"); (case h3 => omega); (case h4 => omega); intro k H2 hk1 hk2 hh2)
  | ((with_reducible refine' g_size ?h1 ?h2 ?h3 ?h4 ?_); (case h1 => assumption); (case h2 => walk_at "spl"); (case h3 => omega); (case h4 => omega); intro k H2 hk1 hh2)
  | ((with_reducible refine' g_word ?h1 ?h2 ?_); (case h1 => assumption); (case h2 => walk_at "spl"); intro k H2 hk1 hh2))
section
variable {P : Program} {w : World} {K : PySem.W.Frag} {mg : Str → Option Value} {base : Heap} {aREG aOPS : Addr}
section
variable {C CS tP : Addr}
theorem tb_none {T : Tb} {p : Nat} {o : Option Nat} (h : (tbV T)[p]? = some (tV o)) : p < T.length := by have := (List.getElem?_eq_some_iff.mp h).1; rw [List.length_map] at this; exact this
def sp_fork (C CS : Addr) : Sp := fun vs H Q _ => ∃ (s : Addr) (A : FA) (ta : Addr) (S : St1) (ps : List Pg) (Tt : Tb) (R : List Cell), vs = [.ref s] ∧ FOk S ps ∧ TOk S Tt ∧ Hd H (frB C A S ps ++ (spI CS s A.F ta false :: lstC ta (tbV Tt) :: R)) ∧
  ∀ s2 ta2 H', FOk (addT S Tt) ps → Hd H' (frB C A (addT S Tt) ps ++ (spI CS s2 A.F ta2 false :: lstC ta2 (tbV Tt) :: spI CS s A.F ta false :: lstC ta (tbV Tt) :: R)) → Q (.ref s2) H'
theorem c_fork (T : Txt K mg aREG aOPS) (L : SpcC K CS) (d : MetAt K CS "fork" "Space.fork" s_Space__fork) (c_Space__ask_unclosed : C8.Met P w K mg base 1 CS "_ask_unclosed" (sp_askU CS) []) (ck_sp1 : MakP P w K mg base 4 "Space" CS (sp_spI CS) 1 ["pages"] (fun vs zs => vs ++ zs)) (c_Frames_share : C8.Met P w K mg base 5 C "share" (sp_share C) []) : C8.Met P w K mg base 6 CS "fork" (sp_fork C CS) [] := by
  refine mkM d sc_Space__fork (fun _ _ _ _ _ _ us hl => match us, hl with | [_], _ => rfl) (fun vs H Q E h => ?_) (fun f cdv A_ outer s H vs Q E hr h => ?_)
  · obtain ⟨s, A, ta, S, ps, Tt, R, rfl, _⟩ := h
    rfl
  · obtain ⟨s, A, ta, S, ps, Tt, R, rfl, k, t, hh, q⟩ := h
    refine ⟨_, (pss_cons (ps_expr (C8.pe_mt0 c_Space__ask_unclosed hr (by first | decide | omega) (pv 0)))
  (pss_cons (ps_set (i := 1) sc_Space__fork.nd rfl (Or.inl rfl) (pe_mkP ck_sp1 hr (by first | decide | omega) rfl (pa_cons (pe_fld (pv 0) rfl) pa_nil) (pk_cons (pe_callB Wk.b_len (by rfl) T.b_len (by decide +kernel) (pa_cons (pe_fld (pv 0) rfl) pa_nil)) pk_nil)))
  (pss_cons (ps_fld (pv 1) (pe_callTy Wk.b_list (by rfl) T.b_list (by decide +kernel) (pa_cons (pe_fld (pv 0) rfl) pa_nil)) rfl)
  (pss_cons (ps_for PassesOwn.never rfl (pi_list (pe_fld (pv 0) rfl)) (pg_name (i := 2) sc_Space__fork.nd rfl (Or.inl rfl))
    (pss_one (ps_if (pt_cmpR op_notN1 (pv 2) pe_non (nomark _))
        (pss_one (ps_expr (C8.pe_mt c_Frames_share hr (by first | decide | omega) (pe_fld (pv 0) rfl) (pa_cons (pv 2) pa_nil))))
        pss_nil)))
  (pss_one (ps_ret (pv 1))))))), ?_⟩
    have hc := L.cl
    have n1 := L.n1
    have n2 := L.n2
    have t1 := t.n1
    have t16 := t.n16
    have hl : (tbV Tt).length = Tt.length := List.length_map ..
    walk_at "gs"
    refine ⟨s, A.F, ta, _, rfl, by walk_at "mem", hh, ?_⟩
    walk_at "gs"
    unfold tMakeK
    walk_at "gs"
    refine ⟨rfl, rfl, fun o1 dx1 hx1 hdx1 _ => ?_⟩
    have h3 := hdMade (C := CS) hh hx1 hdx1
    generalize upd (upd H dx1 (.own o1)) o1 (.ins CS dx1 []) = H3 at h3
    clear hh hx1 hdx1
    refine ⟨o1, A.F, Tt.length, _, by rw [hl]; rfl, by omega, by omega, h3, fun ta2 H4 h4 => ⟨rfl, ?_⟩⟩
    clear h3
    walk_at "gs"
    rename_i ta3 H5 h5
    clear h4
    refine g_sfld h5 (by walk_at "pk") hc n2 (by exact (show 3 < 1000 by omega)) fun H6 h6 => ?_
    clear h5
    walk_at "gs"
    have h6 : Hd H6 (frB C A (addT S (Tt.take 0)) ps ++ (spI CS o1 A.F ta3 false :: lstC ta3 (tbV Tt) :: spI CS s A.F ta false :: lstC ta (tbV Tt) :: R)) := Hd.sb (A := frB C A S ps ++ (spI CS o1 A.F ta3 false :: lstC ta3 (tbV Tt) :: spI CS s A.F ta false :: lstC ta (tbV Tt) :: R)) (show Hd H6 (spI CS o1 A.F ta3 false :: _) from h6) (by walk_at "sbx")
    refine l_list (xs := tbV Tt) (h6.sqL (by walk_at "mem")) (fun i σ H => ∃ (x2 : Option V), σ = [some (.ref s), some (.ref o1), x2] ∧ FOk (addT S (Tt.take i)) ps ∧ Hd H (frB C A (addT S (Tt.take i)) ps ++ (spI CS o1 A.F ta3 false :: lstC ta3 (tbV Tt) :: spI CS s A.F ta false :: lstC ta (tbV Tt) :: R))) ⟨_, rfl, k, h6⟩ (fun i σ H _ ⟨_, _, _, h⟩ => h.sqL (by walk_at "mem")) ?_ ?_
    · rintro i y σ H7 hy ⟨x2, rfl, k7, h7⟩
      clear h6
      have hi : i < Tt.length := by have := (List.getElem?_eq_some_iff.mp hy).1; omega
      rw [tb_at hi] at hy
      cases hy
      have at_ : addT S (Tt.take (i + 1)) = addT (addT S (Tt.take i)) [Tt.getD i none] := by rw [tk_succ (x := Tt.getD i none) (by rw [List.getD_eq_getElem?_getD, List.getElem?_eq_getElem hi]; rfl), add_app]
      dsimp only [List.set]
      cases e : Tt.getD i none with
      | none =>
        rw [e] at at_
        rw [show tV none = V.non from rfl]
        walk_at "gs"
        refine ⟨_, rfl, ?_⟩
        rw [at_]
        exact ⟨k7, h7⟩
      | some fr =>
        rw [e] at at_
        obtain ⟨hf, h0⟩ := t.e fr (tb_mem e)
        obtain ⟨ha, hw⟩ := add_at (S := S) (T := Tt.take i) (fun f hf => (t.e f (List.mem_of_mem_take hf)).1) fr
        have hf2 : fr < (addT S (Tt.take i)).length := by rw [add_len]; exact hf
        rw [show tV (some fr) = V.int fr from rfl]
        have h8 : Hd H7 (frL A.F C A.hl A.pl (addT S (Tt.take i)) ps (spI CS o1 A.F ta3 false :: lstC ta3 (tbV Tt) :: spI CS s A.F ta false :: lstC ta (tbV Tt) :: R)) := by rw [frB_app]; exact h7
        walk_at "gs"
        refine ⟨A.F, A.hl, A.pl, fr, _, ps, _, rfl, hf2, k7.l, k7.pg, h8, by omega, fun H9 h9 => ?_⟩
        rw [frB_app] at h9
        walk_at "gs"
        refine ⟨_, rfl, ?_⟩
        rw [at_]
        refine ⟨k7.set hf2 (k7.w fr hf2 (by omega)) (k7.pg.hold hf2 (by omega)), h9⟩
    · rintro σ H7 ⟨x2, rfl, k7, h7⟩
      rw [hl, List.take_length] at k7 h7
      walk_at "gs"
      exact q o1 ta3 H7 k7 h7
end
end
end K05
set_option Elab.async false
set_option linter.all false
set_option maxRecDepth 100000
set_option maxHeartbeats 4000000
namespace K05
open PySem PySem.Spec PyProof.Rows L2 Wk
local macro_rules | `(tactic| walk_at "u1") => `(tactic| fail "no more")
local macro_rules | `(tactic| walk_at "pos") => `(tactic| first | assumption | omega | decide | (simp only [Int.ofNat_eq_natCast] at *; omega))
local macro_rules | `(tactic| walk_at "sz") => `(tactic| first
  | (simp only [List.length_cons, List.length_nil]; decide)
  | exact Evl.sz_of (by omega)
  | exact Evl.sz_lt (by omega)
  | exact Evl.sz_of (by simp only [List.length_map, List.length_append, List.length_cons, List.length_nil, List.length_replicate]; omega)
  | exact Evl.sz_lt (by simp only [List.length_map, List.length_append, List.length_cons, List.length_nil, List.length_replicate]; omega))
local macro_rules | `(tactic| walk_at "cond") => `(tactic| first
  | exact Or.inr ⟨by decide, by decide⟩
  | (show (0 : Int) < _; first | decide | assumption | omega)
  | exact Or.inl ⟨by omega, by omega⟩
  | exact Or.inr ⟨by omega, by omega⟩
  | exact ⟨by decide, by decide, by decide⟩
  | exact log2_lt (by omega) (by omega)
  | exact ⟨by omega, by omega⟩)
local macro_rules | `(tactic| walk_at "ty") => `(tactic| first
  | exact ty_int | exact ty_bl | exact ty_str | exact ty_non
  | exact ty_L (by assumption) | exact ty_T (by assumption)
  | exact ty_L (SqL.of (by assumption)) | exact ty_T (SqT.of (by assumption)))
local macro_rules | `(tactic| walk_at "kit") => `(tactic| first
  | exact k_ii | exact k_ib | exact k_is | exact k_il | exact k_it
  | exact k_bb | exact k_bi | exact k_bs | exact k_bl | exact k_bt
  | exact k_ss | exact k_sb | exact k_si | exact k_sl | exact k_st
  | exact k_ll | exact k_lb | exact k_li | exact k_ls | exact k_lt
  | exact k_tt | exact k_tb | exact k_ti | exact k_ts | exact k_tl
  | exact k_nn | exact k_ni | exact k_ns | exact k_nl | exact k_nt)
local macro_rules | `(tactic| walk_at "s1") => `(tactic| first
  | with_reducible refine w_seq ?_
  | with_reducible refine w_set ?_
  | with_reducible refine w_op ?_
  | ((with_reducible refine' w_var ?h1 ?_); (case h1 => rfl))
  | with_reducible refine w_c ?_
  | with_reducible refine w_cb ?_
  | with_reducible refine w_cons ?_
  | with_reducible refine w_nil ?_
  | with_reducible refine w_I0 ?_
  | ((with_reducible refine' w_I ?c1 ?_); case c1 => walk_at "cond")
  | with_reducible refine w_ret ?_
  | with_reducible refine w_next ?_
  | with_reducible refine w_ifS ?_
  | with_reducible refine w_test ?_
  | with_reducible refine w_tB ?_
  | with_reducible refine w_k ?_
  | with_reducible refine w_eqI ?_
  | with_reducible refine w_neI ?_
  | with_reducible refine w_eqS ?_
  | with_reducible refine w_neS ?_
  | with_reducible refine w_and ?_
  | with_reducible refine w_or ?_
  | with_reducible refine w_not ?_
  | with_reducible refine w_andV ?_
  | with_reducible refine w_orV ?_
  | with_reducible refine w_notV ?_
  | with_reducible refine w_ifE ?_
  | with_reducible refine w_true ?_
  | with_reducible refine w_false ?_
  | with_reducible refine w_ntrue ?_
  | with_reducible refine w_nfalse ?_
  | with_reducible refine w_call ?_
  | with_reducible refine c_int ?_
  | with_reducible refine c_abs ?_
  | with_reducible refine c_max ?_
  | with_reducible refine c_min ?_
  | with_reducible refine w_drop ?_
  | with_reducible refine w_sfld ?_
  | with_reducible refine w_meth ?_
  | with_reducible refine w_make ?_
  | with_reducible refine w_prop ?_
  | with_reducible refine w_callK ?_
  | with_reducible refine w_callN ?_
  | with_reducible refine w_star ?_
  | with_reducible refine w_gcons ?_
  | with_reducible refine w_gname ?_
  | with_reducible refine w_gnil ?_
  | with_reducible refine w_retN ?_
  | with_reducible refine w_tup ?_
  | with_reducible refine w_lst ?_
  | with_reducible refine w_fld ?_
  | with_reducible refine w_bm ?_
  | with_reducible refine w_bm0 ?_
  | with_reducible refine w_forL ?_
  | with_reducible refine w_forT ?_
  | with_reducible refine w_forS ?_
  | with_reducible refine w_forR ?_
  | with_reducible refine w_lcR ?_
  | with_reducible refine w_lcL ?_
  | with_reducible refine w_lcT ?_
  | with_reducible refine w_isN ?_
  | with_reducible refine w_notN ?_
  | with_reducible refine w_asg ?_
  | with_reducible refine w_gsub ?_
  | ((with_reducible refine' w_aug ?h1 ?_); (case h1 => rfl))
  | with_reducible refine w_augS ?_
  | with_reducible refine w_ipI ?_
  | with_reducible refine w_un ?_
  | with_reducible refine w_U ?_
  | ((with_reducible refine' w_iteF ?f1 ?_); case f1 => (first | (intro h; cases h; done) | decide))
  | ((with_reducible refine' w_iteT ?f1 ?_); case f1 => rfl)
  | ((with_reducible refine' w_iteNF ?f1 ?_); case f1 => rfl)
  | ((with_reducible refine' w_iteNT ?f1 ?_); case f1 => (first | (intro h; cases h; done) | decide))
  | ((with_reducible refine' c_isi ?t1 ?k1 ?_); (case t1 => walk_at "ty"); (case k1 => walk_at "kit"))
  | ((with_reducible refine' w_eq ?e1 ?_); case e1 => rfl)
  | ((with_reducible refine' w_ne ?e1 ?_); case e1 => rfl)
  | walk_at "u1")
local macro_rules | `(tactic| walk_at "s") => `(tactic| repeat walk_at "s1")
local macro_rules | `(tactic| walk_at "mem") => `(tactic| first | with_reducible exact List.mem_cons_self .. | ((with_reducible refine' List.mem_cons_of_mem _ ?q); (case q => walk_at "mem")) | assumption | ((with_reducible refine' List.mem_append_right _ ?q); (case q => walk_at "mem")) | (exact List.mem_append_left _ (by assumption)))
local macro_rules | `(tactic| walk_at "pk") => `(tactic| first | with_reducible exact Pk.here | ((with_reducible refine' Pk.there ?q); (case q => walk_at "pk")) | ((with_reducible refine' Pk.app ?q); (case q => walk_at "pk")))
local macro_rules | `(tactic| walk_at "pkb") => `(tactic| first | with_reducible exact PkB.here | ((with_reducible refine' PkB.there ?q); (case q => walk_at "pkb")) | ((with_reducible refine' PkB.app ?q); (case q => walk_at "pkb")))
local macro_rules | `(tactic| walk_at "spl") => `(tactic| first | with_reducible exact Spl.nil | ((with_reducible refine' Spl.cons ?h ?t); (case h => walk_at "pk"); (case t => walk_at "spl")) | ((with_reducible refine' Spl.blk ?h ?t); (case h => walk_at "pkb"); (case t => walk_at "spl")))
local macro_rules | `(tactic| walk_at "sbx") => `(tactic| first | with_reducible exact Sb.refl | with_reducible exact Sb.nil | with_reducible exact Sb.left | ((with_reducible refine' Sb.cons ?h ?t); (case h => walk_at "pk"); (case t => walk_at "sbx")) | ((with_reducible refine' Sb.blk ?h ?t); (case h => walk_at "pkb"); (case t => walk_at "sbx")) | ((with_reducible refine' Sb.drop ?q); (case q => walk_at "sbx")) | ((with_reducible refine' Sb.right ?q); (case q => walk_at "sbx")))
local macro_rules | `(tactic| walk_at "hd") => `(tactic| first | assumption | exact Hd.sb (by assumption) (by walk_at "sbx"))
local macro_rules | `(tactic| walk_at "sq") => `(tactic| first
  | assumption
  | exact Hd.sqL (by assumption) (by walk_at "mem")
  | exact Hd.sqT (by assumption) (by walk_at "mem")
  | exact Hd.sqF (by assumption) (by walk_at "mem")
  | (refine .inl ?_; walk_at "sq")
  | (refine .inr ?_; walk_at "sq"))
local macro_rules | `(tactic| walk_at "at") => `(tactic| first | rfl | assumption | exact atI_nat (by assumption))
local macro_rules | `(tactic| walk_at "dn1") => `(tactic| first
  | exact Dn.int | exact Dn.str | exact Dn.non | exact Dn.bl | assumption
  | ((refine' Dn.tp ?a1 ?m1 ?l1 ?p1); (case a1 => assumption); (case m1 => walk_at "mem"); (case l1 => (simp only [List.length_cons, List.length_nil]; omega)); (case p1 => walk_at "dns"))
  | ((refine' Dn.lt ?a1 ?m1 ?l1 ?p1); (case a1 => assumption); (case m1 => walk_at "mem"); (case l1 => (simp only [List.length_cons, List.length_nil]; omega)); (case p1 => walk_at "dns")))
local macro_rules | `(tactic| walk_at "dns") => `(tactic| first | exact Paired.nil | exact Dn.ints | ((refine' Paired.cons ?a1 ?b1); (case a1 => walk_at "dn1"); (case b1 => walk_at "dns")))
local macro_rules | `(tactic| walk_at "g1") => `(tactic| first
  | ((with_reducible refine' g_ixI ?h1 ?h2 ?h3 ?_); (case h1 => assumption); (case h2 => walk_at "mem"); (case h3 => omega); intro z hz)
  | ((with_reducible refine' g_ixIT ?h1 ?h2 ?h3 ?_); (case h1 => assumption); (case h2 => walk_at "mem"); (case h3 => omega); intro z hz)
  | ((with_reducible refine' g_setI ?h1 ?h2 ?h3 ?_); (case h1 => assumption); (case h2 => walk_at "pk"); (case h3 => omega); intro H2 hh2)
  | ((with_reducible refine' w_ixL ?h1 ?h2 ?_); (case h1 => walk_at "sq"); (case h2 => walk_at "at"))
  | ((with_reducible refine' w_ixT ?h1 ?h2 ?_); (case h1 => walk_at "sq"); (case h2 => walk_at "at"))
  | ((with_reducible refine' w_ixAny ?h1 ?h2 ?_); (case h1 => walk_at "sq"); (case h2 => walk_at "at"))
  | ((with_reducible refine' c_lenA ?h1 ?_); (case h1 => walk_at "sq"))
  | ((with_reducible refine' c_isi ?t1 ?k1 ?_); (case t1 => first | exact ty_T (by walk_at "sq") | exact ty_L (by walk_at "sq")); (case k1 => walk_at "kit"))
  | ((with_reducible refine' g_lst ?h1 ?h2 ?_); (case h1 => assumption); (case h2 => walk_at "sz"); intro p H2 hh2)
  | ((with_reducible refine' g_tup ?h1 ?h2 ?_); (case h1 => assumption); (case h2 => walk_at "sz"); intro p H2 hh2)
  | ((with_reducible refine' g_dict ?h1 ?_); (case h1 => assumption); intro p H2 hh2)
  | ((with_reducible refine' g_listL ?h1 ?h2 ?_); (case h1 => assumption); (case h2 => walk_at "sq"); intro p H2 hh2)
  | ((with_reducible refine' g_listT ?h1 ?h2 ?_); (case h1 => assumption); (case h2 => walk_at "sq"); intro p H2 hh2)
  | ((with_reducible refine' g_tupL ?h1 ?h2 ?_); (case h1 => assumption); (case h2 => walk_at "sq"); intro p H2 hh2)
  | ((with_reducible refine' g_set ?h1 ?h2 ?h3 ?_); (case h1 => assumption); (case h2 => walk_at "pk"); (case h3 => first | rfl | assumption | exact Evl.ixN_nat (by first | omega | (simp only [List.length_cons, List.length_nil]; omega))); intro H2 hh2)
  | ((with_reducible refine' g_kbm ?h1 ?h2 ?_); (case h1 => assumption); (case h2 => walk_at "mem"))
  | ((with_reducible refine' g_kbm0 ?h1 ?h2 ?_); (case h1 => assumption); (case h2 => walk_at "mem"))
  | ((with_reducible refine' g_app ?h1 ?h2 ?h3 ?_); (case h1 => assumption); (case h2 => walk_at "pk"); (case h3 => walk_at "sz"); intro H2 hh2)
  | ((with_reducible refine' g_kapp ?h1 ?h2 ?h3 ?_); (case h1 => assumption); (case h2 => walk_at "pk"); (case h3 => walk_at "sz"); intro H2 hh2)
  | ((with_reducible refine' g_fld ?h1 ?h2 ?h3 ?h4 ?h5 ?_); (case h1 => assumption); (case h2 => walk_at "mem"); (case h3 => assumption); (case h4 => assumption); (case h5 => rfl))
  | ((with_reducible refine' g_sfld ?h1 ?h2 ?h3 ?h4 ?h5 ?_); (case h1 => assumption); (case h2 => walk_at "pk"); (case h3 => assumption); (case h4 => assumption); (case h5 => decide); intro H2 hh2)
  | ((with_reducible refine' g_meth ?h1 ?h2 ?h3 ?_); (case h1 => assumption); (case h2 => walk_at "mem"); (case h3 => rfl))
  | ((with_reducible refine' g_prop ?h1 ?h2 ?_); (case h1 => assumption); (case h2 => walk_at "mem"))
  | ((with_reducible refine' g_make ?h1 ?_); (case h1 => assumption); intro x H2 hh2)
  | ((with_reducible refine' g_cat ?h1 ?h2 ?h3 ?h4 ?_); (case h1 => assumption); (case h2 => walk_at "mem"); (case h3 => walk_at "mem"); (case h4 => walk_at "sz"); intro p H2 hh2)
  | ((with_reducible refine' g_inT ?h1 ?h2 ?h3 ?h4 ?h5 ?_); (case h1 => assumption); (case h2 => walk_at "mem"); (case h3 => rfl); (case h4 => rfl); (case h5 => rfl)))
local macro_rules | `(tactic| walk_at "gs") => `(tactic| repeat first | walk_at "s1" | walk_at "g1")
local macro_rules | `(tactic| walk_at "ite") => `(tactic| first
  | ((with_reducible refine' w_iteT ?h1 ?_); (case h1 => omega))
  | ((with_reducible refine' w_iteF ?h1 ?_); (case h1 => omega))
  | (with_reducible refine w_ite ?_ ?_ <;> intro hq)
  | ((with_reducible refine' w_iteNT ?h1 ?_); (case h1 => omega))
  | ((with_reducible refine' w_iteNF ?h1 ?_); (case h1 => omega))
  | (with_reducible refine w_iteN ?_ ?_ <;> intro hq))
local macro_rules | `(tactic| walk_at "go") => `(tactic| repeat' first | walk_at "s1" | walk_at "g1" | walk_at "ite")
local macro_rules | `(tactic| walk_at "g1") => `(tactic| first
  | ((with_reducible refine' g_take1 ?h1 ?h2 ?h3 ?h4 ?_); (case h1 => assumption); (case h2 => walk_at "spl"); (case h3 => omega); (case h4 => omega); intro k H2 hk1 hh2)
  | ((with_reducible refine' g_take ?h1 ?h2 ?h4 ?_); (case h1 => assumption); (case h2 => walk_at "spl"); (case h4 => omega); intro k H2 hk1 hh2)
  | ((with_reducible refine' g_betweenN ?h1 ?h2 ?h5 ?h3 ?h4 ?_); (case h1 => assumption); (case h2 => walk_at "spl"); (case h5 => omega); (case h3 => omega); (case h4 => omega); intro k H2 hk1 hk2 hh2)
  | ((with_reducible refine' g_between ?h1 ?h2 ?h3 ?h4 ?_); (case h1 => assumption); (case h2 => walk_at "spl"); (case h3 => omega); (case h4 => omega); intro k H2 hk1 hk2 hh2)
  | ((with_reducible refine' g_size ?h1 ?h2 ?h3 ?h4 ?_); (case h1 => assumption); (case h2 => walk_at "spl"); (case h3 => omega); (case h4 => omega); intro k H2 hk1 hh2)
  | ((with_reducible refine' g_word ?h1 ?h2 ?_); (case h1 => assumption); (case h2 => walk_at "spl"); intro k H2 hk1 hh2))
section
variable {P : Program} {w : World} {K : PySem.W.Frag} {mg : Str → Option Value} {base : Heap} {aREG aOPS : Addr}
section
variable {C CS tP : Addr}
def sp_close (C CS : Addr) : Sp := fun vs H Q _ => ∃ (s : Addr) (A : FA) (ta : Addr) (S : St1) (ps : List Pg) (Tt : Tb) (R : List Cell), vs = [.ref s] ∧ FOk S ps ∧ TOk S Tt ∧ (∀ g, Tt.count (some g) ≤ hat S g) ∧ Hd H (frB C A S ps ++ (spI CS s A.F ta false :: lstC ta (tbV Tt) :: R)) ∧
  ∀ H', FOk (subT S Tt) ps → Hd H' (frB C A (subT S Tt) ps ++ (spI CS s A.F ta true :: lstC ta (tbV Tt) :: R)) → Q .non H'
theorem c_close (T : Txt K mg aREG aOPS) (L : SpcC K CS) (d : MetAt K CS "close" "Space.close" s_Space__close) (c_Space__ask_unclosed : C8.Met P w K mg base 1 CS "_ask_unclosed" (sp_askU CS) []) (c_Frames_drop : C8.Met P w K mg base 5 C "drop" (sp_drop C) []) : C8.Met P w K mg base 6 CS "close" (sp_close C CS) [] := by
  refine mkM d sc_Space__close (fun _ _ _ _ _ _ us hl => match us, hl with | [_], _ => rfl) (fun vs H Q E h => ?_) (fun f cdv A_ outer s H vs Q E hr h => ?_)
  · obtain ⟨s, A, ta, S, ps, Tt, R, rfl, _⟩ := h
    rfl
  · obtain ⟨s, A, ta, S, ps, Tt, R, rfl, k, t, hcn, hh, q⟩ := h
    refine ⟨_, (pss_cons (ps_expr (C8.pe_mt0 c_Space__ask_unclosed hr (by first | decide | omega) (pv 0)))
  (pss_cons (ps_fld (pv 0) pe_bl rfl)
  (pss_one (ps_for PassesOwn.never rfl (pi_list (pe_fld (pv 0) rfl)) (pg_name (i := 1) sc_Space__close.nd rfl (Or.inl rfl))
    (pss_one (ps_if (pt_cmpR op_notN1 (pv 1) pe_non (nomark _))
        (pss_one (ps_expr (C8.pe_mt c_Frames_drop hr (by first | decide | omega) (pe_fld (pv 0) rfl) (pa_cons (pv 1) pa_nil))))
        pss_nil)))))), ?_⟩
    have hc := L.cl
    have n1 := L.n1
    have n2 := L.n2
    have n3 := L.n3
    have hl : (tbV Tt).length = Tt.length := List.length_map ..
    walk_at "gs"
    refine ⟨s, A.F, ta, _, rfl, by walk_at "mem", hh, ?_⟩
    walk_at "gs"
    have hh2 : Hd H (spI CS s A.F ta false :: (frB C A S ps ++ (lstC ta (tbV Tt) :: R))) := Hd.sb hh (by walk_at "sbx")
    refine g_sfld hh2 (by walk_at "pk") hc n3 (by exact (show 3 < 1000 by omega)) fun H6 h6 => ?_
    clear hh hh2
    walk_at "gs"
    have h6 : Hd H6 (frB C A (subT S (Tt.take 0)) ps ++ (spI CS s A.F ta true :: lstC ta (tbV Tt) :: R)) := Hd.sb (A := frB C A S ps ++ (spI CS s A.F ta true :: lstC ta (tbV Tt) :: R)) (show Hd H6 (spI CS s A.F ta true :: _) from h6) (by walk_at "sbx")
    refine l_list (xs := tbV Tt) (h6.sqL (by walk_at "mem")) (fun i σ H => ∃ (x2 : Option V), σ = [some (.ref s), x2] ∧ FOk (subT S (Tt.take i)) ps ∧ Hd H (frB C A (subT S (Tt.take i)) ps ++ (spI CS s A.F ta true :: lstC ta (tbV Tt) :: R))) ⟨_, rfl, k, h6⟩ (fun i σ H _ ⟨_, _, _, h⟩ => h.sqL (by walk_at "mem")) ?_ ?_
    · rintro i y σ H7 hy ⟨x2, rfl, k7, h7⟩
      clear h6
      have hi : i < Tt.length := by have := (List.getElem?_eq_some_iff.mp hy).1; omega
      rw [tb_at hi] at hy
      cases hy
      have at0 : Tt.take (i + 1) = Tt.take i ++ [Tt.getD i none] := tk_succ (x := Tt.getD i none) (by rw [List.getD_eq_getElem?_getD, List.getElem?_eq_getElem hi]; rfl)
      have at_ : subT S (Tt.take (i + 1)) = subT (subT S (Tt.take i)) [Tt.getD i none] := by rw [at0, sub_app]
      dsimp only [List.set]
      cases e : Tt.getD i none with
      | none =>
        rw [e] at at_
        rw [show tV none = V.non from rfl]
        walk_at "gs"
        refine ⟨_, rfl, ?_⟩
        rw [at_]
        exact ⟨k7, h7⟩
      | some fr =>
        rw [e] at at_ at0
        obtain ⟨hf, h0⟩ := t.e fr (tb_mem e)
        obtain ⟨ha, hw⟩ := sub_at (S := S) (T := Tt.take i) (fun f hf => (t.e f (List.mem_of_mem_take hf)).1) fr
        have hf2 : fr < (subT S (Tt.take i)).length := by rw [sub_len]; exact hf
        have hcc : (Tt.take i).count (some fr) + 1 ≤ Tt.count (some fr) := by
          have h1 : (Tt.take (i + 1)).count (some fr) ≤ Tt.count (some fr) := List.Sublist.count_le _ (List.take_sublist _ _)
          rw [at0, List.count_append] at h1
          simpa using h1
        have hcf := hcn fr
        rw [show tV (some fr) = V.int fr from rfl]
        have h8 : Hd H7 (frL A.F C A.hl A.pl (subT S (Tt.take i)) ps (spI CS s A.F ta true :: lstC ta (tbV Tt) :: R)) := by rw [frB_app]; exact h7
        walk_at "gs"
        refine ⟨A.F, A.hl, A.pl, fr, _, ps, _, rfl, hf2, k7.l, k7.pg, h8, by omega, fun H9 h9 => ?_⟩
        rw [frB_app] at h9
        walk_at "gs"
        refine ⟨_, rfl, ?_⟩
        rw [at_]
        refine ⟨k7.set hf2 (k7.w fr hf2 (by omega)) (k7.pg.hold hf2 (by omega)), h9⟩
    · rintro σ H7 ⟨x2, rfl, k7, h7⟩
      rw [hl, List.take_length] at k7 h7
      exact q H7 k7 h7
end
end
end K05
set_option Elab.async false
set_option linter.all false
set_option maxRecDepth 100000
set_option maxHeartbeats 4000000
namespace K05
open PySem PySem.Spec PyProof.Rows L2 Wk
local macro_rules | `(tactic| walk_at "u1") => `(tactic| fail "no more")
local macro_rules | `(tactic| walk_at "pos") => `(tactic| first | assumption | omega | decide | (simp only [Int.ofNat_eq_natCast] at *; omega))
local macro_rules | `(tactic| walk_at "sz") => `(tactic| first
  | (simp only [List.length_cons, List.length_nil]; decide)
  | exact Evl.sz_of (by omega)
  | exact Evl.sz_lt (by omega)
  | exact Evl.sz_of (by simp only [List.length_map, List.length_append, List.length_cons, List.length_nil, List.length_replicate]; omega)
  | exact Evl.sz_lt (by simp only [List.length_map, List.length_append, List.length_cons, List.length_nil, List.length_replicate]; omega))
local macro_rules | `(tactic| walk_at "cond") => `(tactic| first
  | exact Or.inr ⟨by decide, by decide⟩
  | (show (0 : Int) < _; first | decide | assumption | omega)
  | exact Or.inl ⟨by omega, by omega⟩
  | exact Or.inr ⟨by omega, by omega⟩
  | exact ⟨by decide, by decide, by decide⟩
  | exact log2_lt (by omega) (by omega)
  | exact ⟨by omega, by omega⟩)
local macro_rules | `(tactic| walk_at "ty") => `(tactic| first
  | exact ty_int | exact ty_bl | exact ty_str | exact ty_non
  | exact ty_L (by assumption) | exact ty_T (by assumption)
  | exact ty_L (SqL.of (by assumption)) | exact ty_T (SqT.of (by assumption)))
local macro_rules | `(tactic| walk_at "kit") => `(tactic| first
  | exact k_ii | exact k_ib | exact k_is | exact k_il | exact k_it
  | exact k_bb | exact k_bi | exact k_bs | exact k_bl | exact k_bt
  | exact k_ss | exact k_sb | exact k_si | exact k_sl | exact k_st
  | exact k_ll | exact k_lb | exact k_li | exact k_ls | exact k_lt
  | exact k_tt | exact k_tb | exact k_ti | exact k_ts | exact k_tl
  | exact k_nn | exact k_ni | exact k_ns | exact k_nl | exact k_nt)
local macro_rules | `(tactic| walk_at "s1") => `(tactic| first
  | with_reducible refine w_seq ?_
  | with_reducible refine w_set ?_
  | with_reducible refine w_op ?_
  | ((with_reducible refine' w_var ?h1 ?_); (case h1 => rfl))
  | with_reducible refine w_c ?_
  | with_reducible refine w_cb ?_
  | with_reducible refine w_cons ?_
  | with_reducible refine w_nil ?_
  | with_reducible refine w_I0 ?_
  | ((with_reducible refine' w_I ?c1 ?_); case c1 => walk_at "cond")
  | with_reducible refine w_ret ?_
  | with_reducible refine w_next ?_
  | with_reducible refine w_ifS ?_
  | with_reducible refine w_test ?_
  | with_reducible refine w_tB ?_
  | with_reducible refine w_k ?_
  | with_reducible refine w_eqI ?_
  | with_reducible refine w_neI ?_
  | with_reducible refine w_eqS ?_
  | with_reducible refine w_neS ?_
  | with_reducible refine w_and ?_
  | with_reducible refine w_or ?_
  | with_reducible refine w_not ?_
  | with_reducible refine w_andV ?_
  | with_reducible refine w_orV ?_
  | with_reducible refine w_notV ?_
  | with_reducible refine w_ifE ?_
  | with_reducible refine w_true ?_
  | with_reducible refine w_false ?_
  | with_reducible refine w_ntrue ?_
  | with_reducible refine w_nfalse ?_
  | with_reducible refine w_call ?_
  | with_reducible refine c_int ?_
  | with_reducible refine c_abs ?_
  | with_reducible refine c_max ?_
  | with_reducible refine c_min ?_
  | with_reducible refine w_drop ?_
  | with_reducible refine w_sfld ?_
  | with_reducible refine w_meth ?_
  | with_reducible refine w_make ?_
  | with_reducible refine w_prop ?_
  | with_reducible refine w_callK ?_
  | with_reducible refine w_callN ?_
  | with_reducible refine w_star ?_
  | with_reducible refine w_gcons ?_
  | with_reducible refine w_gname ?_
  | with_reducible refine w_gnil ?_
  | with_reducible refine w_retN ?_
  | with_reducible refine w_tup ?_
  | with_reducible refine w_lst ?_
  | with_reducible refine w_fld ?_
  | with_reducible refine w_bm ?_
  | with_reducible refine w_bm0 ?_
  | with_reducible refine w_forL ?_
  | with_reducible refine w_forT ?_
  | with_reducible refine w_forS ?_
  | with_reducible refine w_forR ?_
  | with_reducible refine w_lcR ?_
  | with_reducible refine w_lcL ?_
  | with_reducible refine w_lcT ?_
  | with_reducible refine w_isN ?_
  | with_reducible refine w_notN ?_
  | with_reducible refine w_asg ?_
  | with_reducible refine w_gsub ?_
  | ((with_reducible refine' w_aug ?h1 ?_); (case h1 => rfl))
  | with_reducible refine w_augS ?_
  | with_reducible refine w_ipI ?_
  | with_reducible refine w_un ?_
  | with_reducible refine w_U ?_
  | ((with_reducible refine' w_iteF ?f1 ?_); case f1 => (first | (intro h; cases h; done) | decide))
  | ((with_reducible refine' w_iteT ?f1 ?_); case f1 => rfl)
  | ((with_reducible refine' w_iteNF ?f1 ?_); case f1 => rfl)
  | ((with_reducible refine' w_iteNT ?f1 ?_); case f1 => (first | (intro h; cases h; done) | decide))
  | ((with_reducible refine' c_isi ?t1 ?k1 ?_); (case t1 => walk_at "ty"); (case k1 => walk_at "kit"))
  | ((with_reducible refine' w_eq ?e1 ?_); case e1 => rfl)
  | ((with_reducible refine' w_ne ?e1 ?_); case e1 => rfl)
  | walk_at "u1")
local macro_rules | `(tactic| walk_at "s") => `(tactic| repeat walk_at "s1")
local macro_rules | `(tactic| walk_at "mem") => `(tactic| first | with_reducible exact List.mem_cons_self .. | ((with_reducible refine' List.mem_cons_of_mem _ ?q); (case q => walk_at "mem")) | assumption | ((with_reducible refine' List.mem_append_right _ ?q); (case q => walk_at "mem")) | (exact List.mem_append_left _ (by assumption)))
local macro_rules | `(tactic| walk_at "pk") => `(tactic| first | with_reducible exact Pk.here | ((with_reducible refine' Pk.there ?q); (case q => walk_at "pk")) | ((with_reducible refine' Pk.app ?q); (case q => walk_at "pk")))
local macro_rules | `(tactic| walk_at "pkb") => `(tactic| first | with_reducible exact PkB.here | ((with_reducible refine' PkB.there ?q); (case q => walk_at "pkb")) | ((with_reducible refine' PkB.app ?q); (case q => walk_at "pkb")))
local macro_rules | `(tactic| walk_at "spl") => `(tactic| first | with_reducible exact Spl.nil | ((with_reducible refine' Spl.cons ?h ?t); (case h => walk_at "pk"); (case t => walk_at "spl")) | ((with_reducible refine' Spl.blk ?h ?t); (case h => walk_at "pkb"); (case t => walk_at "spl")))
local macro_rules | `(tactic| walk_at "sbx") => `(tactic| first | with_reducible exact Sb.refl | with_reducible exact Sb.nil | with_reducible exact Sb.left | ((with_reducible refine' Sb.cons ?h ?t); (case h => walk_at "pk"); (case t => walk_at "sbx")) | ((with_reducible refine' Sb.blk ?h ?t); (case h => walk_at "pkb"); (case t => walk_at "sbx")) | ((with_reducible refine' Sb.drop ?q); (case q => walk_at "sbx")) | ((with_reducible refine' Sb.right ?q); (case q => walk_at "sbx")))
local macro_rules | `(tactic| walk_at "hd") => `(tactic| first | assumption | exact Hd.sb (by assumption) (by walk_at "sbx"))
local macro_rules | `(tactic| walk_at "sq") => `(tactic| first
  | assumption
  | exact Hd.sqL (by assumption) (by walk_at "mem")
  | exact Hd.sqT (by assumption) (by walk_at "mem")
  | exact Hd.sqF (by assumption) (by walk_at "mem")
  | (refine .inl ?_; walk_at "sq")
  | (refine .inr ?_; walk_at "sq"))
local macro_rules | `(tactic| walk_at "at") => `(tactic| first | rfl | assumption | exact atI_nat (by assumption))
local macro_rules | `(tactic| walk_at "dn1") => `(tactic| first
  | exact Dn.int | exact Dn.str | exact Dn.non | exact Dn.bl | assumption
  | ((refine' Dn.tp ?a1 ?m1 ?l1 ?p1); (case a1 => assumption); (case m1 => walk_at "mem"); (case l1 => (simp only [List.length_cons, List.length_nil]; omega)); (case p1 => walk_at "dns"))
  | ((refine' Dn.lt ?a1 ?m1 ?l1 ?p1); (case a1 => assumption); (case m1 => walk_at "mem"); (case l1 => (simp only [List.length_cons, List.length_nil]; omega)); (case p1 => walk_at "dns")))
local macro_rules | `(tactic| walk_at "dns") => `(tactic| first | exact Paired.nil | exact Dn.ints | ((refine' Paired.cons ?a1 ?b1); (case a1 => walk_at "dn1"); (case b1 => walk_at "dns")))
local macro_rules | `(tactic| walk_at "g1") => `(tactic| first
  | ((with_reducible refine' g_ixI ?h1 ?h2 ?h3 ?_); (case h1 => assumption); (case h2 => walk_at "mem"); (case h3 => omega); intro z hz)
  | ((with_reducible refine' g_ixIT ?h1 ?h2 ?h3 ?_); (case h1 => assumption); (case h2 => walk_at "mem"); (case h3 => omega); intro z hz)
  | ((with_reducible refine' g_setI ?h1 ?h2 ?h3 ?_); (case h1 => assumption); (case h2 => walk_at "pk"); (case h3 => omega); intro H2 hh2)
  | ((with_reducible refine' w_ixL ?h1 ?h2 ?_); (case h1 => walk_at "sq"); (case h2 => walk_at "at"))
  | ((with_reducible refine' w_ixT ?h1 ?h2 ?_); (case h1 => walk_at "sq"); (case h2 => walk_at "at"))
  | ((with_reducible refine' w_ixAny ?h1 ?h2 ?_); (case h1 => walk_at "sq"); (case h2 => walk_at "at"))
  | ((with_reducible refine' c_lenA ?h1 ?_); (case h1 => walk_at "sq"))
  | ((with_reducible refine' c_isi ?t1 ?k1 ?_); (case t1 => first | exact ty_T (by walk_at "sq") | exact ty_L (by walk_at "sq")); (case k1 => walk_at "kit"))
  | ((with_reducible refine' g_lst ?h1 ?h2 ?_); (case h1 => assumption); (case h2 => walk_at "sz"); intro p H2 hh2)
  | ((with_reducible refine' g_tup ?h1 ?h2 ?_); (case h1 => assumption); (case h2 => walk_at "sz"); intro p H2 hh2)
  | ((with_reducible refine' g_dict ?h1 ?_); (case h1 => assumption); intro p H2 hh2)
  | ((with_reducible refine' g_listL ?h1 ?h2 ?_); (case h1 => assumption); (case h2 => walk_at "sq"); intro p H2 hh2)
  | ((with_reducible refine' g_listT ?h1 ?h2 ?_); (case h1 => assumption); (case h2 => walk_at "sq"); intro p H2 hh2)
  | ((with_reducible refine' g_tupL ?h1 ?h2 ?_); (case h1 => assumption); (case h2 => walk_at "sq"); intro p H2 hh2)
  | ((with_reducible refine' g_set ?h1 ?h2 ?h3 ?_); (case h1 => assumption); (case h2 => walk_at "pk"); (case h3 => first | rfl | assumption | exact Evl.ixN_nat (by first | omega | (simp only [List.length_cons, List.length_nil]; omega))); intro H2 hh2)
  | ((with_reducible refine' g_kbm ?h1 ?h2 ?_); (case h1 => assumption); (case h2 => walk_at "mem"))
  | ((with_reducible refine' g_kbm0 ?h1 ?h2 ?_); (case h1 => assumption); (case h2 => walk_at "mem"))
  | ((with_reducible refine' g_app ?h1 ?h2 ?h3 ?_); (case h1 => assumption); (case h2 => walk_at "pk"); (case h3 => walk_at "sz"); intro H2 hh2)
  | ((with_reducible refine' g_kapp ?h1 ?h2 ?h3 ?_); (case h1 => assumption); (case h2 => walk_at "pk"); (case h3 => walk_at "sz"); intro H2 hh2)
  | ((with_reducible refine' g_fld ?h1 ?h2 ?h3 ?h4 ?h5 ?_); (case h1 => assumption); (case h2 => walk_at "mem"); (case h3 => assumption); (case h4 => assumption); (case h5 => rfl))
  | ((with_reducible refine' g_sfld ?h1 ?h2 ?h3 ?h4 ?h5 ?_); (case h1 => assumption); (case h2 => walk_at "pk"); (case h3 => assumption); (case h4 => assumption); (case h5 => decide); intro H2 hh2)
  | ((with_reducible refine' g_meth ?h1 ?h2 ?h3 ?_); (case h1 => assumption); (case h2 => walk_at "mem"); (case h3 => rfl))
  | ((with_reducible refine' g_prop ?h1 ?h2 ?_); (case h1 => assumption); (case h2 => walk_at "mem"))
  | ((with_reducible refine' g_make ?h1 ?_); (case h1 => assumption); intro x H2 hh2)
  | ((with_reducible refine' g_cat ?h1 ?h2 ?h3 ?h4 ?_); (case h1 => assumption); (case h2 => walk_at "mem"); (case h3 => walk_at "mem"); (case h4 => walk_at "sz"); intro p H2 hh2)
  | ((with_reducible refine' g_inT ?h1 ?h2 ?h3 ?h4 ?h5 ?_); (case h1 => assumption); (case h2 => walk_at "mem"); (case h3 => rfl); (case h4 => rfl); (case h5 => rfl)))
local macro_rules | `(tactic| walk_at "gs") => `(tactic| repeat first | walk_at "s1" | walk_at "g1")
local macro_rules | `(tactic| walk_at "ite") => `(tactic| first
  | ((with_reducible refine' w_iteT ?h1 ?_); (case h1 => omega))
  | ((with_reducible refine' w_iteF ?h1 ?_); (case h1 => omega))
  | (with_reducible refine w_ite ?_ ?_ <;> intro hq)
  | ((with_reducible refine' w_iteNT ?h1 ?_); (case h1 => omega))
  | ((with_reducible refine' w_iteNF ?h1 ?_); (case h1 => omega))
  | (with_reducible refine w_iteN ?_ ?_ <;> intro hq))
local macro_rules | `(tactic| walk_at "go") => `(tactic| repeat' first | walk_at "s1" | walk_at "g1" | walk_at "ite")
local macro_rules | `(tactic| walk_at "g1") => `(tactic| first
  | ((with_reducible refine' g_take1 ?h1 ?h2 ?h3 ?h4 ?_); (case h1 => assumption); (case h2 => walk_at "spl"); (case h3 => omega); (case h4 => omega); intro k H2 hk1 hh2)
  | ((with_reducible refine' g_take ?h1 ?h2 ?h4 ?_); (case h1 => assumption); (case h2 => walk_at "spl"); (case h4 => omega); intro k H2 hk1 hh2)
  | ((with_reducible refine' g_betweenN ?h1 ?h2 ?h5 ?h3 ?h4 ?_); (case h1 => assumption); (case h2 => walk_at "spl"); (case h5 => omega); (case h3 => omega); (case h4 => omega); intro k H2 hk1 hk2 hh2)
  | ((with_reducible refine' g_between ?h1 ?h2 ?h3 ?h4 ?_); (case h1 => assumption); (case h2 => walk_at "spl"); (case h3 => omega); (case h4 => omega); intro k H2 hk1 hk2 hh2)
  | ((with_reducible refine' g_size ?h1 ?h2 ?h3 ?h4 ?_); (case h1 => assumption); (case h2 => walk_at "spl"); (case h3 => omega); (case h4 => omega); intro k H2 hk1 hh2)
  | ((with_reducible refine' g_word ?h1 ?h2 ?_); (case h1 => assumption); (case h2 => walk_at "spl"); intro k H2 hk1 hh2))
section
variable {P : Program} {w : World} {K : PySem.W.Frag} {mg : Str → Option Value} {base : Heap} {aREG aOPS : Addr}
/-! ### frames and all the tables over them -/
structure WOk (S : St1) (ps : List Pg) (Ts : List Tb) : Prop where
  f : FOk S ps
  c : ∀ g, g < S.length → hat S g = Ts.flatten.count (some g)
  e : ∀ g, some g ∈ Ts.flatten → g < S.length
  t : ∀ T ∈ Ts, 1 ≤ T.length ∧ T.length ≤ 16
theorem WOk.tok {S : St1} {ps : List Pg} {Ts : List Tb} {T : Tb} (h : WOk S ps Ts) (m : T ∈ Ts) : TOk S T := by
  refine ⟨(h.t T m).1, (h.t T m).2, fun f hf => ?_⟩
  have hm : some f ∈ Ts.flatten := List.mem_flatten.mpr ⟨T, m, hf⟩
  have hl := h.e f hm
  refine ⟨hl, ?_⟩
  rw [h.c f hl]
  exact List.count_pos_iff.mpr hm
theorem count_set {T : Tb} {p : Nat} {y a : Option Nat} : p < T.length → (T.set p y).count a + (if T.getD p none = a then 1 else 0) = T.count a + (if y = a then 1 else 0) := by
  induction T generalizing p with
  | nil => intro h; exact absurd h (Nat.not_lt_zero _)
  | cons x T ih =>
    intro h
    cases p with
    | zero =>
      show (y :: T).count a + (if x = a then 1 else 0) = (x :: T).count a + _
      rw [List.count_cons, List.count_cons]
      simp only [beq_iff_eq]
      omega
    | succ p =>
      have := ih (p := p) (Nat.lt_of_succ_lt_succ h)
      show (x :: T.set p y).count a + (if T.getD p none = a then 1 else 0) = (x :: T).count a + _
      rw [List.count_cons, List.count_cons]
      omega
theorem val_ext {S S' : St1} {T : Tb} (h : ∀ o ∈ T, pgW S' o = pgW S o) : valS S' T = valS S T := by
  unfold valS
  rw [List.map_congr_left h]
/-- its own frame -/
theorem w_own {S : St1} {ps ps' : List Pg} {L1 L2 : List Tb} {T : Tb} {p : Nat} (h : WOk S ps (L1 ++ T :: L2)) (hp : p < T.length) (rm : Room1 S T p) (k' : FOk (ownS S T p).2.1 ps') :
    WOk (ownS S T p).2.1 ps' (L1 ++ (ownS S T p).2.2 :: L2) ∧ (∀ U, U ∈ L1 ++ L2 → valS (ownS S T p).2.1 U = valS S U) ∧ valS (ownS S T p).2.1 (ownS S T p).2.2 = valS S T := by
  have t := h.tok (T := T) (by simp)
  have fresh : ∀ i, lowest S = some i → ∀ U, U ∈ L1 ++ T :: L2 → some i ∉ U := fun i hi U hU hm => by
    obtain ⟨hil, h0, _⟩ := lowest_some hi
    have := h.c i hil
    rw [h0] at this
    exact List.count_eq_zero.mp this.symm (List.mem_flatten.mpr ⟨U, hU, hm⟩)
  have fin : ∀ (i : Nat) (S1 : St1), lowest S = some i → S1.length = S.length → (∀ g, g < S.length → hat S1 g + (if T.getD p none = some g then 1 else 0) = hat S g + (if some i = some g then 1 else 0)) → (∀ g, g ≠ i → wat S1 g = wat S g) → wat S1 i = pgW S (T.getD p none) → FOk S1 ps' →
      WOk S1 ps' (L1 ++ T.set p (some i) :: L2) ∧ (∀ U, U ∈ L1 ++ L2 → valS S1 U = valS S U) ∧ valS S1 (T.set p (some i)) = valS S T := by
    intro i S1 hi hl hh hw hwi k1
    obtain ⟨hil, h0, _⟩ := lowest_some hi
    have pg : ∀ o : Option Nat, o ≠ some i → pgW S1 o = pgW S o := fun o ho => by
      cases o with
      | none => rfl
      | some g => exact hw g fun z => ho (by rw [z])
    have cs := fun a => count_set (T := T) (p := p) (y := some i) (a := a) hp
    refine ⟨⟨k1, fun g hg => ?_, fun g hg => ?_, fun U hU => ?_⟩, fun U hU => val_ext fun o ho => pg o fun z => ?_, ?_⟩
    · rw [hl] at hg
      have h1 := hh g hg
      have h2 := h.c g hg
      have h3 := cs (some g)
      simp only [List.flatten_append, List.flatten_cons, List.count_append] at h2 ⊢
      omega
    · rw [hl]
      simp only [List.flatten_append, List.flatten_cons, List.mem_append] at hg
      rcases hg with z | z | z
      · exact h.e g (by simp [List.flatten_append]; exact .inl (by simpa using z))
      · rcases List.mem_or_eq_of_mem_set z with y | y
        · exact h.e g (by simp only [List.flatten_append, List.flatten_cons, List.mem_append]; exact .inr (.inl y))
        · cases y; exact hil
      · exact h.e g (by simp only [List.flatten_append, List.flatten_cons, List.mem_append]; exact .inr (.inr z))
    · rcases List.mem_append.mp hU with z | z
      · exact h.t U (List.mem_append_left _ z)
      · rcases List.mem_cons.mp z with z | z
        · rw [z, List.length_set]; exact h.t T (by simp)
        · exact h.t U (List.mem_append_right _ (.tail _ z))
    · refine fresh i hi U ?_ (z ▸ ho)
      rcases List.mem_append.mp hU with y | y
      · exact List.mem_append_left _ y
      · exact List.mem_append_right _ (.tail _ y)
    · unfold valS
      congr 1
      refine List.ext_getElem? fun j => ?_
      rw [List.getElem?_map, List.getElem?_map]
      by_cases e : p = j
      · subst e
        rw [List.getElem?_set_self hp, List.getElem?_eq_getElem hp]
        show some (pgW S1 (some i)) = some (pgW S T[p])
        rw [show pgW S1 (some i) = wat S1 i from rfl, hwi, List.getD_eq_getElem?_getD, List.getElem?_eq_getElem hp]; rfl
      · rw [List.getElem?_set_ne e]
        cases hj : T[j]? with
        | none => rfl
        | some o => exact congrArg some (pg o fun z => fresh i hi T (by simp) (z ▸ List.mem_of_getElem? hj))
  have eo : (∃ f, T.getD p none = some f ∧ hat S f = 1) ∨ ¬ ∃ f, T.getD p none = some f ∧ hat S f = 1 := Classical.em _
  rcases eo with ⟨f, e, h1⟩ | hn
  · have : ownS S T p = (f, S, T) := by unfold ownS; rw [e]; simp only [if_pos h1]
    rw [this] at k' ⊢
    exact ⟨⟨k', h.c, h.e, h.t⟩, fun _ _ => rfl, rfl⟩
  · obtain ⟨i, hi⟩ := rm.resolve_left hn
    obtain ⟨hil, h0, _⟩ := lowest_some hi
    cases e : T.getD p none with
    | none =>
      have : ownS S T p = (i, S.set i (1, List.replicate 8 0), T.set p (some i)) := by unfold ownS; rw [e]; simp only [hi, Option.getD_some]
      rw [this] at k' ⊢
      refine fin i _ hi List.length_set (fun g hg => ?_) (fun g hg => by rw [wat_set hil, if_neg hg]) (by rw [wat_set hil, if_pos rfl, e]; rfl) k'
      rw [hat_set hil, e]
      by_cases z : g = i
      · subst z; simp [h0]
      · have z' : ¬ i = g := fun y => z y.symm
        simp [z, z']
    | some f =>
      obtain ⟨hf, hf0⟩ := t.e f (tb_mem e)
      have h1 : ¬ hat S f = 1 := fun z => hn ⟨f, e, z⟩
      have hne : f ≠ i := fun z => by rw [z] at hf0; omega
      have : ownS S T p = (i, (S.set i (1, wat S f)).set f (hat S f - 1, wat S f), T.set p (some i)) := by unfold ownS; rw [e]; simp only [if_neg h1, hi, Option.getD_some]
      rw [this] at k' ⊢
      have hf2 : f < (S.set i (1, wat S f)).length := by rw [List.length_set]; exact hf
      refine fin i _ hi (by rw [List.length_set, List.length_set]) (fun g hg => ?_) (fun g hg => ?_) ?_ k'
      · rw [hat_set hf2, hat_set hil, e]
        by_cases z : g = f
        · subst z
          have z' : ¬ i = g := fun y => hne y.symm
          simp [z']
          omega
        · have z3 : ¬ f = g := fun y => z y.symm
          by_cases z2 : g = i
          · subst z2; simp [z, z3, h0]
          · have z4 : ¬ i = g := fun y => z2 y.symm
            simp [z, z2, z3, z4]
      · rw [wat_set hf2, wat_set hil]
        by_cases z : g = f
        · subst z; simp
        · simp [z, hg]
      · rw [wat_set hf2, wat_set hil, e]
        have z' : ¬ i = f := fun y => hne y.symm
        simp [z', pgW]
theorem flat_set : ∀ {L : List (List Int)} {p o : Nat} {x : Int}, (∀ l ∈ L, l.length = 8) → p < L.length → o < 8 → (L.set p ((L.getD p []).set o x)).flatten = L.flatten.set (8 * p + o) x
  | [], _, _, _, _, h, _ => absurd h (Nat.not_lt_zero _)
  | l :: L, 0, o, x, h, _, ho => by
    have := h l (.head _)
    show l.set o x ++ L.flatten = (l ++ L.flatten).set (8 * 0 + o) x
    rw [Nat.mul_zero, Nat.zero_add, List.set_append_left _ _ (by omega)]
  | l :: L, p + 1, o, x, h, hp, ho => by
    have hl := h l (.head _)
    have := flat_set (L := L) (p := p) (o := o) (x := x) (fun l hl => h l (.tail _ hl)) (Nat.lt_of_succ_lt_succ hp) ho
    show l ++ (L.set p ((L.getD p []).set o x)).flatten = (l ++ L.flatten).set (8 * (p + 1) + o) x
    rw [this, List.set_append_right _ _ (by omega), hl]
    congr 2
    omega
/-- a word is written -/
theorem w_write {S : St1} {ps ps' : List Pg} {L1 L2 : List Tb} {T : Tb} {a : Nat} {x : Int} (h : WOk S ps (L1 ++ T :: L2)) (ha : a < 8 * T.length) (rm : Room1 S T (a / 8)) (k0 : ∃ q, FOk (ownS S T (a / 8)).2.1 q) (k' : FOk (wrS S T a x).1 ps') :
    WOk (wrS S T a x).1 ps' (L1 ++ (wrS S T a x).2 :: L2) ∧ (∀ U, U ∈ L1 ++ L2 → valS (wrS S T a x).1 U = valS S U) ∧ valS (wrS S T a x).1 (wrS S T a x).2 = (valS S T).set a x := by
  have hp : a / 8 < T.length := by omega
  have t := h.tok (T := T) (by simp)
  obtain ⟨o1, o2, o3, o4, o5, o6⟩ := own_ok h.f t hp rm
  obtain ⟨q, kq⟩ := k0
  obtain ⟨w1, w2, w3⟩ := w_own h hp rm kq
  unfold wrS at k' ⊢
  generalize ownS S T (a / 8) = O at *
  have hO : O.1 < O.2.1.length := by rw [o3]; exact o1
  have hc := w1.c O.1 hO
  rw [o2] at hc
  simp only [List.flatten_append, List.flatten_cons, List.count_append] at hc
  have hpO : a / 8 < O.2.2.length := by rw [o4]; exact hp
  have c1 := count_set (T := O.2.2) (p := a / 8) (y := none) (a := some O.1) hpO
  rw [o5] at c1
  simp only [if_true] at c1
  have z1 : (O.2.2.set (a / 8) none).count (some O.1) = 0 ∧ L1.flatten.count (some O.1) = 0 ∧ L2.flatten.count (some O.1) = 0 := by
    simp only [reduceCtorEq, if_false] at c1
    omega
  have nU : ∀ U, U ∈ L1 ++ L2 → some O.1 ∉ U := fun U hU hm => by
    rcases List.mem_append.mp hU with y | y
    · exact List.count_eq_zero.mp z1.2.1 (List.mem_flatten.mpr ⟨U, y, hm⟩)
    · exact List.count_eq_zero.mp z1.2.2 (List.mem_flatten.mpr ⟨U, y, hm⟩)
  have nT := List.count_eq_zero.mp z1.1
  have pg : ∀ o : Option Nat, o ≠ some O.1 → pgW (O.2.1.set O.1 (hat O.2.1 O.1, (wat O.2.1 O.1).set (a % 8) x)) o = pgW O.2.1 o := fun o ho => by
    cases o with
    | none => rfl
    | some g => exact (wat_set hO).trans (if_neg fun z => ho (by rw [z]))
  have t1 := w1.tok (T := O.2.2) (by simp)
  refine ⟨⟨k', fun g hg => ?_, fun g hg => ?_, w1.t⟩, fun U hU => (val_ext fun o ho => pg o fun z => nU U hU (z ▸ ho)).trans (w2 U hU), ?_⟩
  · rw [List.length_set] at hg
    rw [hat_set hO, ← w1.c g hg]
    by_cases z : g = O.1
    · rw [if_pos z, z]
    · rw [if_neg z]
  · rw [List.length_set]; exact w1.e g hg
  · rw [← w3]
    unfold valS
    have e8 : 8 * (a / 8) + a % 8 = a := by omega
    have hl8 : ∀ l ∈ O.2.2.map (pgW O.2.1), l.length = 8 := fun l hl => by
      obtain ⟨o, ho, rfl⟩ := List.mem_map.mp hl
      exact (pgW_len w1.f t1 ho).1
    have := flat_set (L := O.2.2.map (pgW O.2.1)) (p := a / 8) (o := a % 8) (x := x) hl8 (by rw [List.length_map]; exact hpO) (by omega)
    rw [e8] at this
    rw [← this]
    congr 1
    refine List.ext_getElem? fun j => ?_
    rw [List.getElem?_map]
    have g1 : O.2.2[a / 8]? = some (some O.1) := by
      have := o5
      rw [List.getD_eq_getElem?_getD, List.getElem?_eq_getElem hpO] at this
      rw [List.getElem?_eq_getElem hpO]; exact congrArg some this
    by_cases e : a / 8 = j
    · subst e
      rw [List.getElem?_set_self (by rw [List.length_map]; exact hpO), g1]
      show some (wat (O.2.1.set O.1 _) O.1) = _
      rw [wat_set hO, if_pos rfl, List.getD_eq_getElem?_getD, List.getElem?_map, g1]; rfl
    · rw [List.getElem?_set_ne e, List.getElem?_map]
      cases hj : O.2.2[j]? with
      | none => rfl
      | some o => exact congrArg some (pg o fun z => nT (by rw [← z]; exact List.mem_of_getElem? (i := j) (by rw [List.getElem?_set_ne e]; exact hj)))
/-- a fork -/
theorem w_fork {S : St1} {ps : List Pg} {L1 L2 : List Tb} {T : Tb} (h : WOk S ps (L1 ++ T :: L2)) (k' : FOk (addT S T) ps) : WOk (addT S T) ps ((L1 ++ T :: L2) ++ [T]) ∧ (∀ U, valS (addT S T) U = valS S U) ∧ ∀ i, i ≤ S.length → frees (addT S T) i = frees S i := by
  have t := h.tok (T := T) (by simp)
  have at_ := add_at (S := S) (T := T) fun f hf => (t.e f hf).1
  refine ⟨⟨k', fun g hg => ?_, fun g hg => ?_, fun U hU => ?_⟩, fun U => val_ext fun o _ => ?_, fun i hi => ?_⟩
  · rw [add_len] at hg
    rw [(at_ g).1, h.c g hg]
    simp [List.flatten_append, List.count_append]
    omega
  · rw [add_len]
    simp only [List.flatten_append, List.flatten_cons, List.mem_append, List.flatten_nil, List.append_nil] at hg
    rcases hg with z | z
    · exact h.e g (by simpa [List.flatten_append] using z)
    · exact (t.e g z).1
  · rcases List.mem_append.mp hU with z | z
    · exact h.t U z
    · rw [List.mem_singleton.mp z]; exact h.t T (by simp)
  · cases o with
    | none => rfl
    | some g => exact (at_ g).2
  · unfold frees
    congr 1
    refine List.filter_congr fun j hj => ?_
    have hjl : j < S.length := Nat.lt_of_lt_of_le (List.mem_range.mp hj) hi
    rw [(at_ j).1]
    have hc := h.c j hjl
    simp only [List.flatten_append, List.flatten_cons, List.count_append] at hc
    refine decide_eq_decide.mpr ⟨fun z => by omega, fun z => ?_⟩
    omega
/-- a close -/
theorem w_close {S : St1} {ps : List Pg} {L1 L2 : List Tb} {T : Tb} (h : WOk S ps (L1 ++ T :: L2)) (k' : FOk (subT S T) ps) : WOk (subT S T) ps (L1 ++ L2) ∧ ∀ U, valS (subT S T) U = valS S U := by
  have t := h.tok (T := T) (by simp)
  have at_ := sub_at (S := S) (T := T) fun f hf => (t.e f hf).1
  refine ⟨⟨k', fun g hg => ?_, fun g hg => ?_, fun U hU => ?_⟩, fun U => val_ext fun o _ => ?_⟩
  · rw [sub_len] at hg
    rw [(at_ g).1, h.c g hg]
    simp only [List.flatten_append, List.flatten_cons, List.count_append]
    omega
  · rw [sub_len]
    refine h.e g ?_
    simp only [List.flatten_append, List.flatten_cons, List.mem_append] at hg ⊢
    rcases hg with z | z
    · exact .inl z
    · exact .inr (.inr z)
  · refine h.t U ?_
    rcases List.mem_append.mp hU with z | z
    · exact List.mem_append_left _ z
    · exact List.mem_append_right _ (.tail _ z)
  · cases o with
    | none => rfl
    | some g => exact (at_ g).2
theorem w_count {S : St1} {ps : List Pg} {L1 L2 : List Tb} {T : Tb} (h : WOk S ps (L1 ++ T :: L2)) : ∀ g, T.count (some g) ≤ hat S g := fun g => by
  by_cases hg : g < S.length
  · rw [h.c g hg]
    simp only [List.flatten_append, List.flatten_cons, List.count_append]
    omega
  · have t := h.tok (T := T) (by simp)
    have : T.count (some g) = 0 := List.count_eq_zero.mpr fun z => hg (t.e g z).1
    omega
/-- a new space -/
theorem w_newT {S : St1} {ps : List Pg} {Ts : List Tb} {n : Nat} (h : WOk S ps Ts) (n1 : 1 ≤ n) (n16 : n ≤ 16) : WOk S ps (Ts ++ [List.replicate n none]) := by
  refine ⟨h.f, fun g hg => ?_, fun g hg => ?_, fun U hU => ?_⟩
  · rw [h.c g hg]
    simp only [List.flatten_append, List.flatten_cons, List.count_append, List.flatten_nil, List.append_nil]
    have hz : (List.replicate n (none : Option Nat)).count (some g) = 0 := List.count_eq_zero.mpr fun z => by cases List.eq_of_mem_replicate z
    rw [hz]; rfl
  · simp only [List.flatten_append, List.flatten_cons, List.mem_append, List.flatten_nil, List.append_nil] at hg
    rcases hg with z | z
    · exact h.e g z
    · cases List.eq_of_mem_replicate z
  · rcases List.mem_append.mp hU with z | z
    · exact h.t U z
    · rw [List.mem_singleton.mp z, List.length_replicate]; exact ⟨n1, n16⟩
theorem val_new {S : St1} : ∀ n : Nat, valS S (List.replicate n none) = List.replicate (8 * n) 0
  | 0 => rfl
  | n + 1 => by
    have : valS S (none :: List.replicate n none) = List.replicate 8 0 ++ valS S (List.replicate n none) := by unfold valS; simp [pgW]
    rw [List.replicate_succ, this, val_new n, List.replicate_append_replicate]
    congr 1
    omega
theorem w_none {n : Nat} (n1 : 1 ≤ n) (h : n ≤ 96) : WOk (List.replicate n (0, [])) (List.replicate n none) [] := by
  have ha : ∀ g, hat (List.replicate n (0, ([] : List Int))) g = 0 := fun g => by
    unfold hat
    rw [List.getD_eq_getElem?_getD]
    by_cases z : g < n
    · rw [List.getElem?_replicate_of_lt z]; rfl
    · rw [List.getElem?_eq_none (by rw [List.length_replicate]; omega)]; rfl
  refine ⟨⟨by rw [List.length_replicate]; exact h, ⟨by rw [List.length_replicate, List.length_replicate], fun f _ h0 => ?_⟩, fun f _ h0 => ?_⟩, fun g _ => (ha g).trans rfl, (fun g hg => nomatch hg), (fun T hT => nomatch hT)⟩
  · rw [ha] at h0; exact absurd h0 (by omega)
  · rw [ha] at h0; exact absurd h0 (by omega)
/-! ### room -/
theorem sum_count (n : Nat) : ∀ {E : List (Option Nat)}, (∀ g, some g ∈ E → g < n) → ((List.range n).map fun g => E.count (some g)).sum + E.count none = E.length
  | [], _ => by
    have : ((List.range n).map fun g => ([] : List (Option Nat)).count (some g)).sum = 0 := by
      have h : ∀ xs : List Nat, (xs.map fun g => ([] : List (Option Nat)).count (some g)).sum = 0 := fun xs => by induction xs with
        | nil => rfl
        | cons x xs ih => rw [List.map_cons, List.sum_cons, ih]; rfl
      exact h _
    rw [this]; rfl
  | o :: E, h => by
    have ih := sum_count n (E := E) fun g hg => h g (.tail _ hg)
    cases o with
    | none =>
      have e : (List.range n).map (fun g => (none :: E).count (some g)) = (List.range n).map fun g => E.count (some g) := List.map_congr_left fun g _ => List.count_cons_of_ne (by simp)
      rw [e, List.count_cons_self, List.length_cons]
      omega
    | some f =>
      have hf := h f (.head _)
      have key : ∀ m, ((List.range m).map fun g => (some f :: E).count (some g)).sum = ((List.range m).map fun g => E.count (some g)).sum + if f < m then 1 else 0 := by
        intro m
        induction m with
        | zero => rfl
        | succ m ihm =>
          rw [List.range_succ, List.map_append, List.map_append, List.sum_append, List.sum_append, ihm]
          simp only [List.map_cons, List.map_nil, List.sum_cons, List.sum_nil]
          by_cases z : f = m
          · subst z
            rw [List.count_cons_self, if_neg (Nat.lt_irrefl _), if_pos (Nat.lt_succ_self _)]; omega
          · rw [List.count_cons_of_ne (by simp; exact z)]
            by_cases y : f < m
            · rw [if_pos y, if_pos (by omega)]; omega
            · rw [if_neg y, if_neg (by omega)]; omega
      rw [key, if_pos hf, List.count_cons_of_ne (by simp), List.length_cons]
      omega
theorem sum_ge {n : Nat} {f : Nat → Nat} (h : ∀ g, g < n → 1 ≤ f g) : n ≤ ((List.range n).map f).sum ∧ ∀ j, j < n → n + f j ≤ ((List.range n).map f).sum + 1 := by
  induction n with
  | zero => exact ⟨Nat.zero_le _, fun j hj => absurd hj (Nat.not_lt_zero _)⟩
  | succ n ih =>
    obtain ⟨a, b⟩ := ih fun g hg => h g (Nat.lt_succ_of_lt hg)
    have hn := h n (Nat.lt_succ_self _)
    rw [List.range_succ, List.map_append, List.sum_append]
    simp only [List.map_cons, List.map_nil, List.sum_cons, List.sum_nil]
    refine ⟨by omega, fun j hj => ?_⟩
    by_cases z : j = n
    · subst z; omega
    · have := b j (by omega)
      omega
theorem room_of {S : St1} {ps : List Pg} {L1 L2 : List Tb} {T : Tb} {p : Nat} (h : WOk S ps (L1 ++ T :: L2)) (cap : (L1 ++ T :: L2).flatten.length ≤ S.length) (hp : p < T.length) : Room1 S T p := by
  refine Classical.byContradiction fun hn => ?_
  have h1 : ¬ ∃ f, T.getD p none = some f ∧ hat S f = 1 := fun z => hn (.inl z)
  have h2 : lowest S = none := by
    cases e : lowest S with
    | none => rfl
    | some i => exact absurd (Or.inr ⟨i, e⟩) hn
  have hl := lowest_none h2
  have hc : ∀ g, g < S.length → 1 ≤ (L1 ++ T :: L2).flatten.count (some g) := fun g hg => by rw [← h.c g hg]; have := hl g hg; omega
  have sc := sum_count S.length h.e
  obtain ⟨s1, s2⟩ := sum_ge hc
  cases e : T.getD p none with
  | none =>
    have : none ∈ (L1 ++ T :: L2).flatten := by
      refine List.mem_flatten.mpr ⟨T, by simp, ?_⟩
      rw [List.getD_eq_getElem?_getD, List.getElem?_eq_getElem hp] at e
      rw [← show T[p] = none from e]; exact List.getElem_mem hp
    have := List.count_pos_iff.mpr this
    omega
  | some f =>
    obtain ⟨hf, h0⟩ := (h.tok (T := T) (by simp)).e f (tb_mem e)
    have hne : hat S f ≠ 1 := fun z => h1 ⟨f, e, z⟩
    have := s2 f hf
    rw [← h.c f hf] at this
    omega
end
end K05
set_option Elab.async false
set_option linter.all false
set_option maxRecDepth 100000
set_option maxHeartbeats 4000000
namespace K05
open PySem PySem.Spec PyProof.Rows L2 Wk
local macro_rules | `(tactic| walk_at "u1") => `(tactic| fail "no more")
local macro_rules | `(tactic| walk_at "pos") => `(tactic| first | assumption | omega | decide | (simp only [Int.ofNat_eq_natCast] at *; omega))
local macro_rules | `(tactic| walk_at "sz") => `(tactic| first
  | (simp only [List.length_cons, List.length_nil]; decide)
  | exact Evl.sz_of (by omega)
  | exact Evl.sz_lt (by omega)
  | exact Evl.sz_of (by simp only [List.length_map, List.length_append, List.length_cons, List.length_nil, List.length_replicate]; omega)
  | exact Evl.sz_lt (by simp only [List.length_map, List.length_append, List.length_cons, List.length_nil, List.length_replicate]; omega))
local macro_rules | `(tactic| walk_at "cond") => `(tactic| first
  | exact Or.inr ⟨by decide, by decide⟩
  | (show (0 : Int) < _; first | decide | assumption | omega)
  | exact Or.inl ⟨by omega, by omega⟩
  | exact Or.inr ⟨by omega, by omega⟩
  | exact ⟨by decide, by decide, by decide⟩
  | exact log2_lt (by omega) (by omega)
  | exact ⟨by omega, by omega⟩)
local macro_rules | `(tactic| walk_at "ty") => `(tactic| first
  | exact ty_int | exact ty_bl | exact ty_str | exact ty_non
  | exact ty_L (by assumption) | exact ty_T (by assumption)
  | exact ty_L (SqL.of (by assumption)) | exact ty_T (SqT.of (by assumption)))
local macro_rules | `(tactic| walk_at "kit") => `(tactic| first
  | exact k_ii | exact k_ib | exact k_is | exact k_il | exact k_it
  | exact k_bb | exact k_bi | exact k_bs | exact k_bl | exact k_bt
  | exact k_ss | exact k_sb | exact k_si | exact k_sl | exact k_st
  | exact k_ll | exact k_lb | exact k_li | exact k_ls | exact k_lt
  | exact k_tt | exact k_tb | exact k_ti | exact k_ts | exact k_tl
  | exact k_nn | exact k_ni | exact k_ns | exact k_nl | exact k_nt)
local macro_rules | `(tactic| walk_at "s1") => `(tactic| first
  | with_reducible refine w_seq ?_
  | with_reducible refine w_set ?_
  | with_reducible refine w_op ?_
  | ((with_reducible refine' w_var ?h1 ?_); (case h1 => rfl))
  | with_reducible refine w_c ?_
  | with_reducible refine w_cb ?_
  | with_reducible refine w_cons ?_
  | with_reducible refine w_nil ?_
  | with_reducible refine w_I0 ?_
  | ((with_reducible refine' w_I ?c1 ?_); case c1 => walk_at "cond")
  | with_reducible refine w_ret ?_
  | with_reducible refine w_next ?_
  | with_reducible refine w_ifS ?_
  | with_reducible refine w_test ?_
  | with_reducible refine w_tB ?_
  | with_reducible refine w_k ?_
  | with_reducible refine w_eqI ?_
  | with_reducible refine w_neI ?_
  | with_reducible refine w_eqS ?_
  | with_reducible refine w_neS ?_
  | with_reducible refine w_and ?_
  | with_reducible refine w_or ?_
  | with_reducible refine w_not ?_
  | with_reducible refine w_andV ?_
  | with_reducible refine w_orV ?_
  | with_reducible refine w_notV ?_
  | with_reducible refine w_ifE ?_
  | with_reducible refine w_true ?_
  | with_reducible refine w_false ?_
  | with_reducible refine w_ntrue ?_
  | with_reducible refine w_nfalse ?_
  | with_reducible refine w_call ?_
  | with_reducible refine c_int ?_
  | with_reducible refine c_abs ?_
  | with_reducible refine c_max ?_
  | with_reducible refine c_min ?_
  | with_reducible refine w_drop ?_
  | with_reducible refine w_sfld ?_
  | with_reducible refine w_meth ?_
  | with_reducible refine w_make ?_
  | with_reducible refine w_prop ?_
  | with_reducible refine w_callK ?_
  | with_reducible refine w_callN ?_
  | with_reducible refine w_star ?_
  | with_reducible refine w_gcons ?_
  | with_reducible refine w_gname ?_
  | with_reducible refine w_gnil ?_
  | with_reducible refine w_retN ?_
  | with_reducible refine w_tup ?_
  | with_reducible refine w_lst ?_
  | with_reducible refine w_fld ?_
  | with_reducible refine w_bm ?_
  | with_reducible refine w_bm0 ?_
  | with_reducible refine w_forL ?_
  | with_reducible refine w_forT ?_
  | with_reducible refine w_forS ?_
  | with_reducible refine w_forR ?_
  | with_reducible refine w_lcR ?_
  | with_reducible refine w_lcL ?_
  | with_reducible refine w_lcT ?_
  | with_reducible refine w_isN ?_
  | with_reducible refine w_notN ?_
  | with_reducible refine w_asg ?_
  | with_reducible refine w_gsub ?_
  | ((with_reducible refine' w_aug ?h1 ?_); (case h1 => rfl))
  | with_reducible refine w_augS ?_
  | with_reducible refine w_ipI ?_
  | with_reducible refine w_un ?_
  | with_reducible refine w_U ?_
  | ((with_reducible refine' w_iteF ?f1 ?_); case f1 => (first | (intro h; cases h; done) | decide))
  | ((with_reducible refine' w_iteT ?f1 ?_); case f1 => rfl)
  | ((with_reducible refine' w_iteNF ?f1 ?_); case f1 => rfl)
  | ((with_reducible refine' w_iteNT ?f1 ?_); case f1 => (first | (intro h; cases h; done) | decide))
  | ((with_reducible refine' c_isi ?t1 ?k1 ?_); (case t1 => walk_at "ty"); (case k1 => walk_at "kit"))
  | ((with_reducible refine' w_eq ?e1 ?_); case e1 => rfl)
  | ((with_reducible refine' w_ne ?e1 ?_); case e1 => rfl)
  | walk_at "u1")
local macro_rules | `(tactic| walk_at "s") => `(tactic| repeat walk_at "s1")
local macro_rules | `(tactic| walk_at "mem") => `(tactic| first | with_reducible exact List.mem_cons_self .. | ((with_reducible refine' List.mem_cons_of_mem _ ?q); (case q => walk_at "mem")) | assumption | ((with_reducible refine' List.mem_append_right _ ?q); (case q => walk_at "mem")) | (exact List.mem_append_left _ (by assumption)))
local macro_rules | `(tactic| walk_at "pk") => `(tactic| first | with_reducible exact Pk.here | ((with_reducible refine' Pk.there ?q); (case q => walk_at "pk")) | ((with_reducible refine' Pk.app ?q); (case q => walk_at "pk")))
local macro_rules | `(tactic| walk_at "pkb") => `(tactic| first | with_reducible exact PkB.here | ((with_reducible refine' PkB.there ?q); (case q => walk_at "pkb")) | ((with_reducible refine' PkB.app ?q); (case q => walk_at "pkb")))
local macro_rules | `(tactic| walk_at "spl") => `(tactic| first | with_reducible exact Spl.nil | ((with_reducible refine' Spl.cons ?h ?t); (case h => walk_at "pk"); (case t => walk_at "spl")) | ((with_reducible refine' Spl.blk ?h ?t); (case h => walk_at "pkb"); (case t => walk_at "spl")))
local macro_rules | `(tactic| walk_at "sbx") => `(tactic| first | with_reducible exact Sb.refl | with_reducible exact Sb.nil | with_reducible exact Sb.left | ((with_reducible refine' Sb.cons ?h ?t); (case h => walk_at "pk"); (case t => walk_at "sbx")) | ((with_reducible refine' Sb.blk ?h ?t); (case h => walk_at "pkb"); (case t => walk_at "sbx")) | ((with_reducible refine' Sb.drop ?q); (case q => walk_at "sbx")) | ((with_reducible refine' Sb.right ?q); (case q => walk_at "sbx")))
local macro_rules | `(tactic| walk_at "hd") => `(tactic| first | assumption | exact Hd.sb (by assumption) (by walk_at "sbx"))
local macro_rules | `(tactic| walk_at "sq") => `(tactic| first
  | assumption
  | exact Hd.sqL (by assumption) (by walk_at "mem")
  | exact Hd.sqT (by assumption) (by walk_at "mem")
  | exact Hd.sqF (by assumption) (by walk_at "mem")
  | (refine .inl ?_; walk_at "sq")
  | (refine .inr ?_; walk_at "sq"))
local macro_rules | `(tactic| walk_at "at") => `(tactic| first | rfl | assumption | exact atI_nat (by assumption))
local macro_rules | `(tactic| walk_at "dn1") => `(tactic| first
  | exact Dn.int | exact Dn.str | exact Dn.non | exact Dn.bl | assumption
  | ((refine' Dn.tp ?a1 ?m1 ?l1 ?p1); (case a1 => assumption); (case m1 => walk_at "mem"); (case l1 => (simp only [List.length_cons, List.length_nil]; omega)); (case p1 => walk_at "dns"))
  | ((refine' Dn.lt ?a1 ?m1 ?l1 ?p1); (case a1 => assumption); (case m1 => walk_at "mem"); (case l1 => (simp only [List.length_cons, List.length_nil]; omega)); (case p1 => walk_at "dns")))
local macro_rules | `(tactic| walk_at "dns") => `(tactic| first | exact Paired.nil | exact Dn.ints | ((refine' Paired.cons ?a1 ?b1); (case a1 => walk_at "dn1"); (case b1 => walk_at "dns")))
local macro_rules | `(tactic| walk_at "g1") => `(tactic| first
  | ((with_reducible refine' g_ixI ?h1 ?h2 ?h3 ?_); (case h1 => assumption); (case h2 => walk_at "mem"); (case h3 => omega); intro z hz)
  | ((with_reducible refine' g_ixIT ?h1 ?h2 ?h3 ?_); (case h1 => assumption); (case h2 => walk_at "mem"); (case h3 => omega); intro z hz)
  | ((with_reducible refine' g_setI ?h1 ?h2 ?h3 ?_); (case h1 => assumption); (case h2 => walk_at "pk"); (case h3 => omega); intro H2 hh2)
  | ((with_reducible refine' w_ixL ?h1 ?h2 ?_); (case h1 => walk_at "sq"); (case h2 => walk_at "at"))
  | ((with_reducible refine' w_ixT ?h1 ?h2 ?_); (case h1 => walk_at "sq"); (case h2 => walk_at "at"))
  | ((with_reducible refine' w_ixAny ?h1 ?h2 ?_); (case h1 => walk_at "sq"); (case h2 => walk_at "at"))
  | ((with_reducible refine' c_lenA ?h1 ?_); (case h1 => walk_at "sq"))
  | ((with_reducible refine' c_isi ?t1 ?k1 ?_); (case t1 => first | exact ty_T (by walk_at "sq") | exact ty_L (by walk_at "sq")); (case k1 => walk_at "kit"))
  | ((with_reducible refine' g_lst ?h1 ?h2 ?_); (case h1 => assumption); (case h2 => walk_at "sz"); intro p H2 hh2)
  | ((with_reducible refine' g_tup ?h1 ?h2 ?_); (case h1 => assumption); (case h2 => walk_at "sz"); intro p H2 hh2)
  | ((with_reducible refine' g_dict ?h1 ?_); (case h1 => assumption); intro p H2 hh2)
  | ((with_reducible refine' g_listL ?h1 ?h2 ?_); (case h1 => assumption); (case h2 => walk_at "sq"); intro p H2 hh2)
  | ((with_reducible refine' g_listT ?h1 ?h2 ?_); (case h1 => assumption); (case h2 => walk_at "sq"); intro p H2 hh2)
  | ((with_reducible refine' g_tupL ?h1 ?h2 ?_); (case h1 => assumption); (case h2 => walk_at "sq"); intro p H2 hh2)
  | ((with_reducible refine' g_set ?h1 ?h2 ?h3 ?_); (case h1 => assumption); (case h2 => walk_at "pk"); (case h3 => first | rfl | assumption | exact Evl.ixN_nat (by first | omega | (simp only [List.length_cons, List.length_nil]; omega))); intro H2 hh2)
  | ((with_reducible refine' g_kbm ?h1 ?h2 ?_); (case h1 => assumption); (case h2 => walk_at "mem"))
  | ((with_reducible refine' g_kbm0 ?h1 ?h2 ?_); (case h1 => assumption); (case h2 => walk_at "mem"))
  | ((with_reducible refine' g_app ?h1 ?h2 ?h3 ?_); (case h1 => assumption); (case h2 => walk_at "pk"); (case h3 => walk_at "sz"); intro H2 hh2)
  | ((with_reducible refine' g_kapp ?h1 ?h2 ?h3 ?_); (case h1 => assumption); (case h2 => walk_at "pk"); (case h3 => walk_at "sz"); intro H2 hh2)
  | ((with_reducible refine' g_fld ?h1 ?h2 ?h3 ?h4 ?h5 ?_); (case h1 => assumption); (case h2 => walk_at "mem"); (case h3 => assumption); (case h4 => assumption); (case h5 => rfl))
  | ((with_reducible refine' g_sfld ?h1 ?h2 ?h3 ?h4 ?h5 ?_); (case h1 => assumption); (case h2 => walk_at "pk"); (case h3 => assumption); (case h4 => assumption); (case h5 => decide); intro H2 hh2)
  | ((with_reducible refine' g_meth ?h1 ?h2 ?h3 ?_); (case h1 => assumption); (case h2 => walk_at "mem"); (case h3 => rfl))
  | ((with_reducible refine' g_prop ?h1 ?h2 ?_); (case h1 => assumption); (case h2 => walk_at "mem"))
  | ((with_reducible refine' g_make ?h1 ?_); (case h1 => assumption); intro x H2 hh2)
  | ((with_reducible refine' g_cat ?h1 ?h2 ?h3 ?h4 ?_); (case h1 => assumption); (case h2 => walk_at "mem"); (case h3 => walk_at "mem"); (case h4 => walk_at "sz"); intro p H2 hh2)
  | ((with_reducible refine' g_inT ?h1 ?h2 ?h3 ?h4 ?h5 ?_); (case h1 => assumption); (case h2 => walk_at "mem"); (case h3 => rfl); (case h4 => rfl); (case h5 => rfl)))
local macro_rules | `(tactic| walk_at "gs") => `(tactic| repeat first | walk_at "s1" | walk_at "g1")
local macro_rules | `(tactic| walk_at "ite") => `(tactic| first
  | ((with_reducible refine' w_iteT ?h1 ?_); (case h1 => omega))
  | ((with_reducible refine' w_iteF ?h1 ?_); (case h1 => omega))
  | (with_reducible refine w_ite ?_ ?_ <;> intro hq)
  | ((with_reducible refine' w_iteNT ?h1 ?_); (case h1 => omega))
  | ((with_reducible refine' w_iteNF ?h1 ?_); (case h1 => omega))
  | (with_reducible refine w_iteN ?_ ?_ <;> intro hq))
local macro_rules | `(tactic| walk_at "go") => `(tactic| repeat' first | walk_at "s1" | walk_at "g1" | walk_at "ite")
local macro_rules | `(tactic| walk_at "g1") => `(tactic| first
  | ((with_reducible refine' g_take1 ?h1 ?h2 ?h3 ?h4 ?_); (case h1 => assumption); (case h2 => walk_at "spl"); (case h3 => omega); (case h4 => omega); intro k H2 hk1 hh2)
  | ((with_reducible refine' g_take ?h1 ?h2 ?h4 ?_); (case h1 => assumption); (case h2 => walk_at "spl"); (case h4 => omega); intro k H2 hk1 hh2)
  | ((with_reducible refine' g_betweenN ?h1 ?h2 ?h5 ?h3 ?h4 ?_); (case h1 => assumption); (case h2 => walk_at "spl"); (case h5 => omega); (case h3 => omega); (case h4 => omega); intro k H2 hk1 hk2 hh2)
  | ((with_reducible refine' g_between ?h1 ?h2 ?h3 ?h4 ?_); (case h1 => assumption); (case h2 => walk_at "spl"); (case h3 => omega); (case h4 => omega); intro k H2 hk1 hk2 hh2)
  | ((with_reducible refine' g_size ?h1 ?h2 ?h3 ?h4 ?_); (case h1 => assumption); (case h2 => walk_at "spl"); (case h3 => omega); (case h4 => omega); intro k H2 hk1 hh2)
  | ((with_reducible refine' g_word ?h1 ?h2 ?_); (case h1 => assumption); (case h2 => walk_at "spl"); intro k H2 hk1 hh2))
local macro_rules | `(tactic| walk_at "g1") => `(tactic| first | with_reducible refine w_sl ?_ | with_reducible refine w_part ?_ | with_reducible refine w_noPart ?_ | with_reducible refine w_exI ?_)
section
variable {P : Program} {w : World} {K : PySem.W.Frag} {mg : Str → Option Value} {base : Heap} {aREG aOPS : Addr}
inductive CL where
  | wr (who a x : Nat)
  | rd (who a : Nat)
  | fk (who : Nat)
  | cl (who : Nat)
def clV : CL → List V
  | .wr who a x => [.str "write", .int who, .int a, .int x]
  | .rd who a => [.str "read", .int who, .int a]
  | .fk who => [.str "fork", .int who]
  | .cl who => [.str "close", .int who]
def CkOk : CL → Prop
  | .wr _ _ x => x ≤ 65535
  | _ => True
def ClIn (Z : List Cell) (as : List Addr) (cs : List CL) : Prop := Paired (fun a k => tupC a (clV k) ∈ Z ∧ CkOk k) as cs
theorem paired_mono {α β : Type} {F G : α → β → Prop} (h : ∀ a b, F a b → G a b) : ∀ {xs : List α} {ys : List β}, Paired F xs ys → Paired G xs ys
  | _, _, .nil => .nil
  | _, _, .cons r t => .cons (h _ _ r) (paired_mono h t)
theorem paired_at {α β : Type} {F : α → β → Prop} : ∀ {xs : List α} {ys : List β} {i : Nat} {x : α}, Paired F xs ys → xs[i]? = some x → ∃ y, ys[i]? = some y ∧ F x y
  | _, _, _, _, .nil, h => by simp at h
  | _, _, 0, _, .cons r t, h => by obtain rfl : _ = _ := by simpa using h
                                   exact ⟨_, rfl, r⟩
  | _, _, i + 1, _, .cons r t, h => paired_at (i := i) t (by simpa using h)
theorem ClIn.up {Z : List Cell} {as : List Addr} {cs : List CL} (h : ClIn Z as cs) (Y : List Cell) : ClIn (Y ++ Z) as cs := paired_mono (fun _ _ ⟨a, b⟩ => ⟨List.mem_append_right _ a, b⟩) h
def sp_calls : Sp := fun vs H Q _ => ∃ (st c : Addr) (pages n : Nat) (R : List Cell), vs = [.ref st, .int pages, .int n] ∧ 1 ≤ pages ∧ pages ≤ 16 ∧ n ≤ 100 ∧ Hd H (stoC st c :: scrC c :: R) ∧ ∀ (p : Addr) (as : List Addr) (cs : List CL) (Z : List Cell) H', ClIn Z as cs → Hd H' (lstC p (as.map V.ref) :: (Z ++ (stoC st c :: scrC c :: R))) → Q (.ref p) H'
theorem c_calls (T : Txt K mg aREG aOPS) (d : DefAt K mg "_law_space_calls" s__law_space_calls) (c__law_take : C8.Cal P w K mg base 2 "_law_take" sp_take []) (c__law_between : C8.Cal P w K mg base 3 "_law_between" sp_between []) (c__law_word : C8.Cal P w K mg base 4 "_law_word" sp_word []) : C8.Cal P w K mg base 5 "_law_space_calls" sp_calls [] := by
  refine mk d sc__law_space_calls (fun _ _ _ _ _ _ us hl => match us, hl with | [_, _, _], _ => rfl) (fun vs H Q E h => ?_) (fun f cdv A_ outer s H vs Q E hr h => ?_)
  · obtain ⟨st, c, pages, n, R, rfl, _⟩ := h
    rfl
  · obtain ⟨st, c, pages, n, R, rfl, p1, p16, hn, hh, q⟩ := h
    refine ⟨_, (pss_cons (ps_set (i := 3) sc__law_space_calls.nd rfl (Or.inl rfl) (pe_lst pa_nil))
  (pss_cons (ps_for PassesOwn.never rfl (pi_range1 rfl T.b_range (pa_cons (pv 2) pa_nil)) (pg_name (i := 4) sc__law_space_calls.nd rfl (Or.inl rfl))
    (pss_cons (ps_set (i := 5) sc__law_space_calls.nd rfl (Or.inl rfl) (C8.pe_c c__law_take hr (by first | decide | omega) rfl (pa_cons (pv 0) (pa_cons pe_int pa_nil))))
      (pss_cons (ps_set (i := 6) sc__law_space_calls.nd rfl (Or.inl rfl) (C8.pe_c c__law_take hr (by first | decide | omega) rfl (pa_cons (pv 0) (pa_cons pe_int pa_nil))))
      (C8.pss_cut (ps_if (pt_cmpR op_eq (C8.pe_c c__law_take hr (by first | decide | omega) rfl (pa_cons (pv 0) (pa_cons pe_int pa_nil))) pe_int (nomark _))
        (pss_one (ps_set (i := 7) sc__law_space_calls.nd rfl (Or.inl rfl) (C8.pe_c c__law_between hr (by first | decide | omega) rfl (pa_cons (pv 0) (pa_cons pe_int (pa_cons (pe_op op_sub (pe_op op_mul pe_int (pv 1)) pe_int) pa_nil))))))
        (pss_one (ps_set (i := 7) sc__law_space_calls.nd rfl (Or.inl rfl) (C8.pe_c c__law_take hr (by first | decide | omega) rfl (pa_cons (pv 0) (pa_cons (pe_callB (Wk.b_min rfl) (by rfl) T.b_min (by decide +kernel) (pa_cons (pe_op op_mul pe_int (pv 1)) (pa_cons pe_int pa_nil))) pa_nil))))))
      (pss_one (ps_if (pt_cmpR op_lt (pv 5) pe_int (nomark _))
        (pss_one (ps_expr (pe_bm PySem.F.plainAttrs_list PySem.F.slot_list_append PySem.F.type_list_append mt_append (pv 3) (pa_cons (pe_tup (pa_cons pe_str (pa_cons (pv 6) (pa_cons (pv 7) (pa_cons (C8.pe_c c__law_word hr (by first | decide | omega) rfl (pa_cons (pv 0) pa_nil)) pa_nil))))) pa_nil))))
        (pss_one (ps_if (pt_cmpR op_lt (pv 5) pe_int (nomark _))
            (pss_one (ps_expr (pe_bm PySem.F.plainAttrs_list PySem.F.slot_list_append PySem.F.type_list_append mt_append (pv 3) (pa_cons (pe_tup (pa_cons pe_str (pa_cons (pv 6) (pa_cons (pv 7) pa_nil)))) pa_nil))))
            (pss_one (ps_if (pt_cmpR op_lt (pv 5) pe_int (nomark _))
                (pss_one (ps_expr (pe_bm PySem.F.plainAttrs_list PySem.F.slot_list_append PySem.F.type_list_append mt_append (pv 3) (pa_cons (pe_tup (pa_cons pe_str (pa_cons (pv 6) pa_nil))) pa_nil))))
                (pss_one (ps_expr (pe_bm PySem.F.plainAttrs_list PySem.F.slot_list_append PySem.F.type_list_append mt_append (pv 3) (pa_cons (pe_tup (pa_cons pe_str (pa_cons (pv 6) pa_nil))) pa_nil))))))))))))))
  (pss_one (ps_ret (pv 3))))), ?_⟩
    have hsl : 2000 < sizeLine := by rw [sizeLine_eq]; decide
    walk_at "gs"
    rename_i p H1 h1
    refine l_range (m := n) rfl (by omega) (fun i σ H => ∃ (x4 x5 x6 x7 : Option V) (as : List Addr) (cs : List CL) (Z : List Cell), σ = [some (.ref st), some (.int pages), some (.int n), some (.ref p), x4, x5, x6, x7] ∧ as.length = i ∧ ClIn Z as cs ∧ Hd H (lstC p (as.map V.ref) :: (Z ++ (stoC st c :: scrC c :: R)))) ⟨_, _, _, _, [], [], [], rfl, rfl, .nil, h1⟩ ?_ ?_
    · clear h1 hh
      rintro i σ H2 hi ⟨x4, x5, x6, x7, as, cs, Z, rfl, hl, hc, h2⟩
      have hlm : (as.map V.ref).length = i := by rw [List.length_map]; exact hl
      dsimp only [List.set]
      walk_at "gs"
      rename_i wy H3 hwy h3 who H4 hwho h4
      clear h2 h3
      show C8.tCut _ _ _ _ _
      refine w_cut (fun σ H => ∃ a : Nat, σ = [some (.ref st), some (.int pages), some (.int n), some (.ref p), some (.int (i : Nat)), some (.int wy), some (.int who), some (.int a)] ∧ Hd H (stoC st c :: scrC c :: lstC p (as.map V.ref) :: (Z ++ R))) ?_ ?_
      · walk_at "gs"
        rename_i k5 H5 hk5 h5
        clear h4
        refine w_ite (fun e => ?_) (fun e => ?_)
        · walk_at "gs"
          rename_i a H6 ha0 ha1 h6
          exact ⟨a, rfl, Hd.sb h6 (by walk_at "sbx")⟩
        · walk_at "gs"
          rename_i a H6 ha h6
          exact ⟨a, rfl, Hd.sb h6 (by walk_at "sbx")⟩
      · rintro σ H5 ⟨a, rfl, h5⟩
        clear h4
        have fin : ∀ (t : Addr) (k : CL) (x4 x5 x6 x7 : Option V) (H : Hp), CkOk k → Hd H (lstC p (as.map V.ref ++ [V.ref t]) :: tupC t (clV k) :: (Z ++ (stoC st c :: scrC c :: R))) → ∃ (y4 y5 y6 y7 : Option V) (as : List Addr) (cs : List CL) (Z : List Cell), ([some (.ref st), some (.int pages), some (.int n), some (.ref p), x4, x5, x6, x7] : L2.St) = [some (.ref st), some (.int pages), some (.int n), some (.ref p), y4, y5, y6, y7] ∧ as.length = i + 1 ∧ ClIn Z as cs ∧ Hd H (lstC p (as.map V.ref) :: (Z ++ (stoC st c :: scrC c :: R))) := fun t k x4 x5 x6 x7 H hk h =>
          ⟨_, _, _, _, as ++ [t], cs ++ [k], tupC t (clV k) :: Z, rfl, by rw [List.length_append, hl]; rfl, pSnoc (hc.up [tupC t (clV k)]) ⟨.head _, hk⟩, by rw [List.map_append]; exact h⟩
        walk_at "gs"
        refine w_ite (fun e => ?_) (fun e => ?_)
        · walk_at "gs"
          rename_i x H6 hx h6 t H7 h7 H8 h8
          exact fin t (.wr who a x) _ _ _ _ _ hx (Hd.sb (A := lstC p (as.map V.ref ++ [V.ref t]) :: tupC t [V.str "write", V.int who, V.int a, V.int x] :: (Z ++ (stoC st c :: scrC c :: R))) h8 (by walk_at "sbx"))
        walk_at "gs"
        refine w_ite (fun e => ?_) (fun e => ?_)
        · walk_at "gs"
          rename_i t H7 h7 H8 h8
          exact fin t (.rd who a) _ _ _ _ _ trivial (Hd.sb (A := lstC p (as.map V.ref ++ [V.ref t]) :: tupC t [V.str "read", V.int who, V.int a] :: (Z ++ (stoC st c :: scrC c :: R))) h8 (by walk_at "sbx"))
        walk_at "gs"
        refine w_ite (fun e => ?_) (fun e => ?_)
        · walk_at "gs"
          rename_i t H7 h7 H8 h8
          exact fin t (.fk who) _ _ _ _ _ trivial (Hd.sb (A := lstC p (as.map V.ref ++ [V.ref t]) :: tupC t [V.str "fork", V.int who] :: (Z ++ (stoC st c :: scrC c :: R))) h8 (by walk_at "sbx"))
        · walk_at "gs"
          rename_i t H7 h7 H8 h8
          exact fin t (.cl who) _ _ _ _ _ trivial (Hd.sb (A := lstC p (as.map V.ref ++ [V.ref t]) :: tupC t [V.str "close", V.int who] :: (Z ++ (stoC st c :: scrC c :: R))) h8 (by walk_at "sbx"))
    · rintro σ H2 ⟨x4, x5, x6, x7, as, cs, Z, rfl, hl, hc, h2⟩
      walk_at "gs"
      exact q p as cs Z H2 hc h2
end
end K05
set_option Elab.async false
set_option linter.all false
set_option maxRecDepth 100000
set_option maxHeartbeats 4000000
namespace K05
open PySem PySem.Spec PyProof.Rows L2 Wk
local macro_rules | `(tactic| walk_at "u1") => `(tactic| fail "no more")
local macro_rules | `(tactic| walk_at "pos") => `(tactic| first | assumption | omega | decide | (simp only [Int.ofNat_eq_natCast] at *; omega))
local macro_rules | `(tactic| walk_at "sz") => `(tactic| first
  | (simp only [List.length_cons, List.length_nil]; decide)
  | exact Evl.sz_of (by omega)
  | exact Evl.sz_lt (by omega)
  | exact Evl.sz_of (by simp only [List.length_map, List.length_append, List.length_cons, List.length_nil, List.length_replicate]; omega)
  | exact Evl.sz_lt (by simp only [List.length_map, List.length_append, List.length_cons, List.length_nil, List.length_replicate]; omega))
local macro_rules | `(tactic| walk_at "cond") => `(tactic| first
  | exact Or.inr ⟨by decide, by decide⟩
  | (show (0 : Int) < _; first | decide | assumption | omega)
  | exact Or.inl ⟨by omega, by omega⟩
  | exact Or.inr ⟨by omega, by omega⟩
  | exact ⟨by decide, by decide, by decide⟩
  | exact log2_lt (by omega) (by omega)
  | exact ⟨by omega, by omega⟩)
local macro_rules | `(tactic| walk_at "ty") => `(tactic| first
  | exact ty_int | exact ty_bl | exact ty_str | exact ty_non
  | exact ty_L (by assumption) | exact ty_T (by assumption)
  | exact ty_L (SqL.of (by assumption)) | exact ty_T (SqT.of (by assumption)))
local macro_rules | `(tactic| walk_at "kit") => `(tactic| first
  | exact k_ii | exact k_ib | exact k_is | exact k_il | exact k_it
  | exact k_bb | exact k_bi | exact k_bs | exact k_bl | exact k_bt
  | exact k_ss | exact k_sb | exact k_si | exact k_sl | exact k_st
  | exact k_ll | exact k_lb | exact k_li | exact k_ls | exact k_lt
  | exact k_tt | exact k_tb | exact k_ti | exact k_ts | exact k_tl
  | exact k_nn | exact k_ni | exact k_ns | exact k_nl | exact k_nt)
local macro_rules | `(tactic| walk_at "s1") => `(tactic| first
  | with_reducible refine w_seq ?_
  | with_reducible refine w_set ?_
  | with_reducible refine w_op ?_
  | ((with_reducible refine' w_var ?h1 ?_); (case h1 => rfl))
  | with_reducible refine w_c ?_
  | with_reducible refine w_cb ?_
  | with_reducible refine w_cons ?_
  | with_reducible refine w_nil ?_
  | with_reducible refine w_I0 ?_
  | ((with_reducible refine' w_I ?c1 ?_); case c1 => walk_at "cond")
  | with_reducible refine w_ret ?_
  | with_reducible refine w_next ?_
  | with_reducible refine w_ifS ?_
  | with_reducible refine w_test ?_
  | with_reducible refine w_tB ?_
  | with_reducible refine w_k ?_
  | with_reducible refine w_eqI ?_
  | with_reducible refine w_neI ?_
  | with_reducible refine w_eqS ?_
  | with_reducible refine w_neS ?_
  | with_reducible refine w_and ?_
  | with_reducible refine w_or ?_
  | with_reducible refine w_not ?_
  | with_reducible refine w_andV ?_
  | with_reducible refine w_orV ?_
  | with_reducible refine w_notV ?_
  | with_reducible refine w_ifE ?_
  | with_reducible refine w_true ?_
  | with_reducible refine w_false ?_
  | with_reducible refine w_ntrue ?_
  | with_reducible refine w_nfalse ?_
  | with_reducible refine w_call ?_
  | with_reducible refine c_int ?_
  | with_reducible refine c_abs ?_
  | with_reducible refine c_max ?_
  | with_reducible refine c_min ?_
  | with_reducible refine w_drop ?_
  | with_reducible refine w_sfld ?_
  | with_reducible refine w_meth ?_
  | with_reducible refine w_make ?_
  | with_reducible refine w_prop ?_
  | with_reducible refine w_callK ?_
  | with_reducible refine w_callN ?_
  | with_reducible refine w_star ?_
  | with_reducible refine w_gcons ?_
  | with_reducible refine w_gname ?_
  | with_reducible refine w_gnil ?_
  | with_reducible refine w_retN ?_
  | with_reducible refine w_tup ?_
  | with_reducible refine w_lst ?_
  | with_reducible refine w_fld ?_
  | with_reducible refine w_bm ?_
  | with_reducible refine w_bm0 ?_
  | with_reducible refine w_forL ?_
  | with_reducible refine w_forT ?_
  | with_reducible refine w_forS ?_
  | with_reducible refine w_forR ?_
  | with_reducible refine w_lcR ?_
  | with_reducible refine w_lcL ?_
  | with_reducible refine w_lcT ?_
  | with_reducible refine w_isN ?_
  | with_reducible refine w_notN ?_
  | with_reducible refine w_asg ?_
  | with_reducible refine w_gsub ?_
  | ((with_reducible refine' w_aug ?h1 ?_); (case h1 => rfl))
  | with_reducible refine w_augS ?_
  | with_reducible refine w_ipI ?_
  | with_reducible refine w_un ?_
  | with_reducible refine w_U ?_
  | ((with_reducible refine' w_iteF ?f1 ?_); case f1 => (first | (intro h; cases h; done) | decide))
  | ((with_reducible refine' w_iteT ?f1 ?_); case f1 => rfl)
  | ((with_reducible refine' w_iteNF ?f1 ?_); case f1 => rfl)
  | ((with_reducible refine' w_iteNT ?f1 ?_); case f1 => (first | (intro h; cases h; done) | decide))
  | ((with_reducible refine' c_isi ?t1 ?k1 ?_); (case t1 => walk_at "ty"); (case k1 => walk_at "kit"))
  | ((with_reducible refine' w_eq ?e1 ?_); case e1 => rfl)
  | ((with_reducible refine' w_ne ?e1 ?_); case e1 => rfl)
  | walk_at "u1")
local macro_rules | `(tactic| walk_at "s") => `(tactic| repeat walk_at "s1")
local macro_rules | `(tactic| walk_at "mem") => `(tactic| first | with_reducible exact List.mem_cons_self .. | ((with_reducible refine' List.mem_cons_of_mem _ ?q); (case q => walk_at "mem")) | assumption | ((with_reducible refine' List.mem_append_right _ ?q); (case q => walk_at "mem")) | (exact List.mem_append_left _ (by assumption)))
local macro_rules | `(tactic| walk_at "pk") => `(tactic| first | with_reducible exact Pk.here | ((with_reducible refine' Pk.there ?q); (case q => walk_at "pk")) | ((with_reducible refine' Pk.app ?q); (case q => walk_at "pk")))
local macro_rules | `(tactic| walk_at "pkb") => `(tactic| first | with_reducible exact PkB.here | ((with_reducible refine' PkB.there ?q); (case q => walk_at "pkb")) | ((with_reducible refine' PkB.app ?q); (case q => walk_at "pkb")))
local macro_rules | `(tactic| walk_at "spl") => `(tactic| first | with_reducible exact Spl.nil | ((with_reducible refine' Spl.cons ?h ?t); (case h => walk_at "pk"); (case t => walk_at "spl")) | ((with_reducible refine' Spl.blk ?h ?t); (case h => walk_at "pkb"); (case t => walk_at "spl")))
local macro_rules | `(tactic| walk_at "sbx") => `(tactic| first | with_reducible exact Sb.refl | with_reducible exact Sb.nil | with_reducible exact Sb.left | ((with_reducible refine' Sb.cons ?h ?t); (case h => walk_at "pk"); (case t => walk_at "sbx")) | ((with_reducible refine' Sb.blk ?h ?t); (case h => walk_at "pkb"); (case t => walk_at "sbx")) | ((with_reducible refine' Sb.drop ?q); (case q => walk_at "sbx")) | ((with_reducible refine' Sb.right ?q); (case q => walk_at "sbx")))
local macro_rules | `(tactic| walk_at "hd") => `(tactic| first | assumption | exact Hd.sb (by assumption) (by walk_at "sbx"))
local macro_rules | `(tactic| walk_at "sq") => `(tactic| first
  | assumption
  | exact Hd.sqL (by assumption) (by walk_at "mem")
  | exact Hd.sqT (by assumption) (by walk_at "mem")
  | exact Hd.sqF (by assumption) (by walk_at "mem")
  | (refine .inl ?_; walk_at "sq")
  | (refine .inr ?_; walk_at "sq"))
local macro_rules | `(tactic| walk_at "at") => `(tactic| first | rfl | assumption | exact atI_nat (by assumption))
local macro_rules | `(tactic| walk_at "dn1") => `(tactic| first
  | exact Dn.int | exact Dn.str | exact Dn.non | exact Dn.bl | assumption
  | ((refine' Dn.tp ?a1 ?m1 ?l1 ?p1); (case a1 => assumption); (case m1 => walk_at "mem"); (case l1 => (simp only [List.length_cons, List.length_nil]; omega)); (case p1 => walk_at "dns"))
  | ((refine' Dn.lt ?a1 ?m1 ?l1 ?p1); (case a1 => assumption); (case m1 => walk_at "mem"); (case l1 => (simp only [List.length_cons, List.length_nil]; omega)); (case p1 => walk_at "dns")))
local macro_rules | `(tactic| walk_at "dns") => `(tactic| first | exact Paired.nil | exact Dn.ints | ((refine' Paired.cons ?a1 ?b1); (case a1 => walk_at "dn1"); (case b1 => walk_at "dns")))
local macro_rules | `(tactic| walk_at "g1") => `(tactic| first
  | ((with_reducible refine' g_ixI ?h1 ?h2 ?h3 ?_); (case h1 => assumption); (case h2 => walk_at "mem"); (case h3 => omega); intro z hz)
  | ((with_reducible refine' g_ixIT ?h1 ?h2 ?h3 ?_); (case h1 => assumption); (case h2 => walk_at "mem"); (case h3 => omega); intro z hz)
  | ((with_reducible refine' g_setI ?h1 ?h2 ?h3 ?_); (case h1 => assumption); (case h2 => walk_at "pk"); (case h3 => omega); intro H2 hh2)
  | ((with_reducible refine' w_ixL ?h1 ?h2 ?_); (case h1 => walk_at "sq"); (case h2 => walk_at "at"))
  | ((with_reducible refine' w_ixT ?h1 ?h2 ?_); (case h1 => walk_at "sq"); (case h2 => walk_at "at"))
  | ((with_reducible refine' w_ixAny ?h1 ?h2 ?_); (case h1 => walk_at "sq"); (case h2 => walk_at "at"))
  | ((with_reducible refine' c_lenA ?h1 ?_); (case h1 => walk_at "sq"))
  | ((with_reducible refine' c_isi ?t1 ?k1 ?_); (case t1 => first | exact ty_T (by walk_at "sq") | exact ty_L (by walk_at "sq")); (case k1 => walk_at "kit"))
  | ((with_reducible refine' g_lst ?h1 ?h2 ?_); (case h1 => assumption); (case h2 => walk_at "sz"); intro p H2 hh2)
  | ((with_reducible refine' g_tup ?h1 ?h2 ?_); (case h1 => assumption); (case h2 => walk_at "sz"); intro p H2 hh2)
  | ((with_reducible refine' g_dict ?h1 ?_); (case h1 => assumption); intro p H2 hh2)
  | ((with_reducible refine' g_listL ?h1 ?h2 ?_); (case h1 => assumption); (case h2 => walk_at "sq"); intro p H2 hh2)
  | ((with_reducible refine' g_listT ?h1 ?h2 ?_); (case h1 => assumption); (case h2 => walk_at "sq"); intro p H2 hh2)
  | ((with_reducible refine' g_tupL ?h1 ?h2 ?_); (case h1 => assumption); (case h2 => walk_at "sq"); intro p H2 hh2)
  | ((with_reducible refine' g_set ?h1 ?h2 ?h3 ?_); (case h1 => assumption); (case h2 => walk_at "pk"); (case h3 => first | rfl | assumption | exact Evl.ixN_nat (by first | omega | (simp only [List.length_cons, List.length_nil]; omega))); intro H2 hh2)
  | ((with_reducible refine' g_kbm ?h1 ?h2 ?_); (case h1 => assumption); (case h2 => walk_at "mem"))
  | ((with_reducible refine' g_kbm0 ?h1 ?h2 ?_); (case h1 => assumption); (case h2 => walk_at "mem"))
  | ((with_reducible refine' g_app ?h1 ?h2 ?h3 ?_); (case h1 => assumption); (case h2 => walk_at "pk"); (case h3 => walk_at "sz"); intro H2 hh2)
  | ((with_reducible refine' g_kapp ?h1 ?h2 ?h3 ?_); (case h1 => assumption); (case h2 => walk_at "pk"); (case h3 => walk_at "sz"); intro H2 hh2)
  | ((with_reducible refine' g_fld ?h1 ?h2 ?h3 ?h4 ?h5 ?_); (case h1 => assumption); (case h2 => walk_at "mem"); (case h3 => assumption); (case h4 => assumption); (case h5 => rfl))
  | ((with_reducible refine' g_sfld ?h1 ?h2 ?h3 ?h4 ?h5 ?_); (case h1 => assumption); (case h2 => walk_at "pk"); (case h3 => assumption); (case h4 => assumption); (case h5 => decide); intro H2 hh2)
  | ((with_reducible refine' g_meth ?h1 ?h2 ?h3 ?_); (case h1 => assumption); (case h2 => walk_at "mem"); (case h3 => rfl))
  | ((with_reducible refine' g_prop ?h1 ?h2 ?_); (case h1 => assumption); (case h2 => walk_at "mem"))
  | ((with_reducible refine' g_make ?h1 ?_); (case h1 => assumption); intro x H2 hh2)
  | ((with_reducible refine' g_cat ?h1 ?h2 ?h3 ?h4 ?_); (case h1 => assumption); (case h2 => walk_at "mem"); (case h3 => walk_at "mem"); (case h4 => walk_at "sz"); intro p H2 hh2)
  | ((with_reducible refine' g_inT ?h1 ?h2 ?h3 ?h4 ?h5 ?_); (case h1 => assumption); (case h2 => walk_at "mem"); (case h3 => rfl); (case h4 => rfl); (case h5 => rfl)))
local macro_rules | `(tactic| walk_at "gs") => `(tactic| repeat first | walk_at "s1" | walk_at "g1")
local macro_rules | `(tactic| walk_at "ite") => `(tactic| first
  | ((with_reducible refine' w_iteT ?h1 ?_); (case h1 => omega))
  | ((with_reducible refine' w_iteF ?h1 ?_); (case h1 => omega))
  | (with_reducible refine w_ite ?_ ?_ <;> intro hq)
  | ((with_reducible refine' w_iteNT ?h1 ?_); (case h1 => omega))
  | ((with_reducible refine' w_iteNF ?h1 ?_); (case h1 => omega))
  | (with_reducible refine w_iteN ?_ ?_ <;> intro hq))
local macro_rules | `(tactic| walk_at "go") => `(tactic| repeat' first | walk_at "s1" | walk_at "g1" | walk_at "ite")
section
variable {P : Program} {w : World} {K : PySem.W.Frag} {mg : Str → Option Value} {base : Heap} {aREG aOPS : Addr}
def errNames : List Str := ["BadArgument", "BadText", "LabelTwice", "LabelMissing", "TooLong", "Unknown", "Taken", "NotAllowed", "WrongState", "RingOfWaits", "Full", "Stopped", "SourceError"]
/-- what the text leaves of its error class nm: C; W is WardError -/
structure ErrX (K : PySem.W.Frag) (mg : Str → Option Value) (nm : Str) (C W fI : Addr) : Prop where
  g_C : mg nm = some (.ref C)
  g_W : mg "WardError" = some (.ref W)
  vErr : mg "ValueError" = none
  o : OexC K C
  x : XfC K C
  e : ExcC K C
  no : PySem.W.findIn K (.ref C) "what" = some none
  init : PySem.W.findIn K (.ref C) "__init__" = some (some (.ref fI))
  fn : PySem.W.typeIn K (.ref fI) = some (.type "function")
  wsp : PySem.W.specialIn K (.ref W) "__getattribute__" = some (some (.builtin "type.__getattribute__"))
  wr : ∃ mc, PySem.W.readsIn K W mc = true ∧ PySem.W.findCls K (.ref W) mc "__init__" = some (.val (.builtin "ValueError.__init__"))
  isW : PySem.W.kitOne K (.ref C) (.ref W) = some true
  exW : PySem.W.exmOne K (.ref C) (.ref W) = some true
  isV : PySem.W.kitOne K (.ref C) (.type "ValueError") = some true
  kinds : ∀ x ∈ errNames, ∃ a, mg x = some (.ref a) ∧ PySem.W.kitOne K (.ref C) (.ref a) = some (decide (x = nm))
def okI (v : V) : Prop := ∃ n : Nat, n ≤ 95 ∧ v = .int n
def okF (v : V) : Prop := v = .str "frame"
def sp_wI (C : Addr) (ok : V → Prop) : Sp := fun vs H Q _ => ∃ (a : Addr) (v : V), vs = [.ref a, v] ∧ ok v ∧ H a = some (exo a C none) ∧ ∀ dx, H dx = none → dx ≠ a → Q .non (upd (upd H dx (exd dx [("what", v)])) a (exo a C (some dx)))
theorem str95 : ∀ n : Nat, n < 96 → (toString (n : Int) : Str).length ≤ 100 := by decide +kernel
/-- X(v): a new dict, no more -/
theorem w_mkW {C : Addr} {ok : V → Prop} {v : V} {i : Nat} {σ : L2.St} {H1 : Hp} {Q : XK} (hv : σ[i]? = some (some v)) (hok : ok v) (q : ∀ d H', New H1 H' d (.xd [("what", v)]) → Q (.ref C) (some d) H') : tMkO C (sp_wI C ok) [] (tCons (tVar i) tNil) σ H1 Q := by
  refine w_cons (w_var hv (w_nil ⟨by simp only [List.length_cons, List.length_nil]; omega, fun a ha => ⟨a, v, rfl, hok, upd_same, fun dx n ne => ⟨rfl, dx, [("what", v)], upd_same, ?_, ?_, ?_⟩⟩⟩))
  · rw [upd_ne ne, upd_same]
  · rw [upd_ne ne] at n
    exact n
  · rw [made_heap ha ne]
    rw [upd_ne ne] at n
    exact q dx _ (New.of n)
theorem w_mkWc {C : Addr} {ok : V → Prop} {v : V} {σ : L2.St} {H1 : Hp} {Q : XK} (hok : ok v) (q : ∀ d H', New H1 H' d (.xd [("what", v)]) → Q (.ref C) (some d) H') : tMkO C (sp_wI C ok) [] (tCons (tC v) tNil) σ H1 Q := by
  refine w_cons (w_c (w_nil ⟨by simp only [List.length_cons, List.length_nil]; omega, fun a ha => ⟨a, v, rfl, hok, upd_same, fun dx n ne => ⟨rfl, dx, [("what", v)], upd_same, ?_, ?_, ?_⟩⟩⟩))
  · rw [upd_ne ne, upd_same]
  · rw [upd_ne ne] at n
    exact n
  · rw [made_heap ha ne]
    rw [upd_ne ne] at n
    exact q dx _ (New.of n)
theorem c_isP {D a dd : Addr} {fs : List (Str × V)} {c : V} {cv : Value} {b : Bool} {H : Hp} {Q : VK} (hd : H dd = some (.xd fs)) (hcv : ∀ u, RelV c u → u = cv) (e : PySem.W.kitOne K (.ref D) cv = some b) (q : Q (.bl b) H) : CB (rIsP K D a dd) [.ref a, c] H Q :=
  ⟨c, cv, b, fs, rfl, hcv, e, hd, q⟩
/-- _law_error of one of the classes -/
def sp_errX (nm : Str) (C : Addr) : SpP := fun p vs H Q _ => ∃ (dd : Addr) (v : V), vs = [.ref p.1] ∧ L2.Zc (.ref C) (some dd) p.2 ∧ (∃ us, p.2.data = .fields us) ∧ H dd = some (.xd [("what", v)]) ∧ ∀ t H', Upt [] H H' → H t = none → H' t = some (.tup [.str nm, v]) → Q (.ref t) H'

theorem f_UnknownI {CX : CXT} {C W f : Addr} {fd : FuncData} (R : ErrX K mg "Unknown" C W f) (d : DefM K "__init__" "Unknown.__init__" s_Unknown____init__ [] f fd) : FnOk P w K mg base CX 1 f fd ["self", "what"] (sp_wI C okI) := by
  refine FunD.ok d sc_Unknown____init__ (fun vs H Q E h => ?_) (fun cdv A outer s H vs Q E hr h => ?_)
  · obtain ⟨a, z, rfl, _⟩ := h
    rfl
  · obtain ⟨a, z, rfl, ok, ha, q⟩ := h
    obtain ⟨mc, mr, mf⟩ := R.wr
    refine ⟨_, (pss_cons (ps_expr (pe_weinit rfl R.g_W R.wsp mr mf (pa_cons (pv 0) (pa_cons (pe_joined (.cons (pe_fmt (pv 1)) (.cons pe_str .nil))) pa_nil))))
  (pss_one (ps_ost (pv 0) (pv 1)))), ?_⟩
    walk_at "s"
    obtain ⟨n, hn, rfl⟩ := ok
    have e0 := str95 n (by omega)
    have e2 : (Str.empty ++ (toString (n : Int) : Str)).length ≤ sizeLine := by rw [Str.length_append, sizeLine_eq]; show 0 + _ ≤ _; omega
    have hlog : (n : Int).natAbs.log2 < 1920 := by
      rcases Nat.eq_zero_or_pos n with z | z
      · subst z; decide
      · exact Nat.lt_trans ((Nat.log2_lt (by omega)).mpr (show (n : Int).natAbs < 2 ^ 7 by omega)) (by decide)
    refine w_cons (w_var rfl (w_cons ⟨_, rfl, .inr ⟨_, rfl, hlog, _, rfl, e2, _, rfl, ?_, ?_⟩⟩))
    · rw [Str.length_append, Str.length_append, sizeLine_eq]
      have e3 : (" is not there" : Str).length ≤ 100 := by decide +kernel
      have e4 : Str.empty.length = 0 := rfl
      omega
    · exact ⟨a, C, _, rfl, by simp only [List.length_cons, List.length_nil]; omega, R.o, ha, _, rfl, _, rfl, a, C, rfl, R.o, R.no, .inl ⟨ha, fun dx n ne => q dx n ne⟩⟩

theorem b_errUnknown {C W fI : Addr} (T : Txt K mg aREG aOPS) (R : ErrX K mg "Unknown" C W fI) :
    ∀ (f : Addr) (cdv : Value) (A : Around) (outer : List Env) (s : Shared) (H : Hp) (vs : List V) (Q : VK) (E : XK) (p : Addr × Obj), L2H.Hot1 A p → L2H.RoomH 0 (A.deeper (envOfC "_law_error" (defScope s__law_error) s.heap.objs.size f cdv)) → sp_errX "Unknown" C p vs H Q E →
      ∃ t, PSs (L2H.cxH C8.CX0 P w K mg base nm__law_error "_law_error" (defScope s__law_error) f cdv A outer s H E p) (defBody s__law_error) t ∧ t { nx := fun _ H' => Q .non H', rt := Q } (L2.start nm__law_error vs) H := by
  intro f cdv A outer s H vs Q E p hot hr h
  obtain ⟨a0, k0, n0⟩ := R.kinds "BadArgument" (by simp [errNames])
  replace n0 : PySem.W.kitOne K (.ref C) (.ref a0) = some false := n0.trans (by decide +kernel)
  have g_BadArgument : ∃ u, mg "BadArgument" = some u ∧ RelV (.ref a0) u := ⟨_, k0, rfl⟩
  obtain ⟨a1, k1, n1⟩ := R.kinds "BadText" (by simp [errNames])
  replace n1 : PySem.W.kitOne K (.ref C) (.ref a1) = some false := n1.trans (by decide +kernel)
  have g_BadText : ∃ u, mg "BadText" = some u ∧ RelV (.ref a1) u := ⟨_, k1, rfl⟩
  obtain ⟨a2, k2, n2⟩ := R.kinds "LabelTwice" (by simp [errNames])
  replace n2 : PySem.W.kitOne K (.ref C) (.ref a2) = some false := n2.trans (by decide +kernel)
  have g_LabelTwice : ∃ u, mg "LabelTwice" = some u ∧ RelV (.ref a2) u := ⟨_, k2, rfl⟩
  obtain ⟨a3, k3, n3⟩ := R.kinds "LabelMissing" (by simp [errNames])
  replace n3 : PySem.W.kitOne K (.ref C) (.ref a3) = some false := n3.trans (by decide +kernel)
  have g_LabelMissing : ∃ u, mg "LabelMissing" = some u ∧ RelV (.ref a3) u := ⟨_, k3, rfl⟩
  obtain ⟨a4, k4, n4⟩ := R.kinds "TooLong" (by simp [errNames])
  replace n4 : PySem.W.kitOne K (.ref C) (.ref a4) = some false := n4.trans (by decide +kernel)
  have g_TooLong : ∃ u, mg "TooLong" = some u ∧ RelV (.ref a4) u := ⟨_, k4, rfl⟩
  obtain ⟨a5, k5, n5⟩ := R.kinds "Unknown" (by simp [errNames])
  replace n5 : PySem.W.kitOne K (.ref C) (.ref a5) = some true := n5.trans (by decide +kernel)
  have g_Unknown : ∃ u, mg "Unknown" = some u ∧ RelV (.ref a5) u := ⟨_, k5, rfl⟩
  obtain ⟨a6, k6, n6⟩ := R.kinds "Taken" (by simp [errNames])
  replace n6 : PySem.W.kitOne K (.ref C) (.ref a6) = some false := n6.trans (by decide +kernel)
  have g_Taken : ∃ u, mg "Taken" = some u ∧ RelV (.ref a6) u := ⟨_, k6, rfl⟩
  obtain ⟨a7, k7, n7⟩ := R.kinds "NotAllowed" (by simp [errNames])
  replace n7 : PySem.W.kitOne K (.ref C) (.ref a7) = some false := n7.trans (by decide +kernel)
  have g_NotAllowed : ∃ u, mg "NotAllowed" = some u ∧ RelV (.ref a7) u := ⟨_, k7, rfl⟩
  obtain ⟨a8, k8, n8⟩ := R.kinds "WrongState" (by simp [errNames])
  replace n8 : PySem.W.kitOne K (.ref C) (.ref a8) = some false := n8.trans (by decide +kernel)
  have g_WrongState : ∃ u, mg "WrongState" = some u ∧ RelV (.ref a8) u := ⟨_, k8, rfl⟩
  obtain ⟨a9, k9, n9⟩ := R.kinds "RingOfWaits" (by simp [errNames])
  replace n9 : PySem.W.kitOne K (.ref C) (.ref a9) = some false := n9.trans (by decide +kernel)
  have g_RingOfWaits : ∃ u, mg "RingOfWaits" = some u ∧ RelV (.ref a9) u := ⟨_, k9, rfl⟩
  obtain ⟨a10, k10, n10⟩ := R.kinds "Full" (by simp [errNames])
  replace n10 : PySem.W.kitOne K (.ref C) (.ref a10) = some false := n10.trans (by decide +kernel)
  have g_Full : ∃ u, mg "Full" = some u ∧ RelV (.ref a10) u := ⟨_, k10, rfl⟩
  obtain ⟨a11, k11, n11⟩ := R.kinds "Stopped" (by simp [errNames])
  replace n11 : PySem.W.kitOne K (.ref C) (.ref a11) = some false := n11.trans (by decide +kernel)
  have g_Stopped : ∃ u, mg "Stopped" = some u ∧ RelV (.ref a11) u := ⟨_, k11, rfl⟩
  obtain ⟨a12, k12, n12⟩ := R.kinds "SourceError" (by simp [errNames])
  replace n12 : PySem.W.kitOne K (.ref C) (.ref a12) = some false := n12.trans (by decide +kernel)
  have g_SourceError : ∃ u, mg "SourceError" = some u ∧ RelV (.ref a12) u := ⟨_, k12, rfl⟩
  have g_WardError : ∃ u, mg "WardError" = some u ∧ RelV (.ref W) u := ⟨_, R.g_W, rfl⟩
  obtain ⟨a, oe⟩ := p
  obtain ⟨dd, v, rfl, hz, hf, hd, q⟩ := h
  have hp : (a, oe) ∈ (L2H.cxH C8.CX0 P w K mg base nm__law_error "_law_error" (defScope s__law_error) f cdv A outer s H E (a, oe)).pn := List.mem_singleton.mpr rfl
  refine ⟨_, (pss_cons (ps_set (i := 1) sc__law_error.nd rfl (Or.inl rfl) (pe_lst pa_nil))
  (pss_cons (ps_if (pt_val (pe_callB (call_isP R.e hp hz hf) (by rfl) T.b_isinstance (by decide +kernel) (pa_cons (pv 0) (pa_cons (C8.pe_gc rfl g_BadArgument) pa_nil))))
    (pss_one ps_never)
    pss_nil)
  (pss_cons (ps_if (pt_val (pe_callB (call_isP R.e hp hz hf) (by rfl) T.b_isinstance (by decide +kernel) (pa_cons (pv 0) (pa_cons (C8.pe_gc rfl g_BadText) pa_nil))))
    (pss_one ps_never)
    pss_nil)
  (pss_cons (ps_if (pt_val (pe_callB (call_isP R.e hp hz hf) (by rfl) T.b_isinstance (by decide +kernel) (pa_cons (pv 0) (pa_cons (C8.pe_gc rfl g_LabelTwice) pa_nil))))
    (pss_one ps_never)
    pss_nil)
  (pss_cons (ps_if (pt_val (pe_callB (call_isP R.e hp hz hf) (by rfl) T.b_isinstance (by decide +kernel) (pa_cons (pv 0) (pa_cons (C8.pe_gc rfl g_LabelMissing) pa_nil))))
    (pss_one ps_never)
    pss_nil)
  (pss_cons (ps_if (pt_val (pe_callB (call_isP R.e hp hz hf) (by rfl) T.b_isinstance (by decide +kernel) (pa_cons (pv 0) (pa_cons (C8.pe_gc rfl g_TooLong) pa_nil))))
    (pss_one ps_never)
    pss_nil)
  (pss_cons (ps_if (pt_val (pe_callB (call_isP R.e hp hz hf) (by rfl) T.b_isinstance (by decide +kernel) (pa_cons (pv 0) (pa_cons (C8.pe_gc rfl g_Unknown) pa_nil))))
    (pss_one (ps_expr (pe_bm PySem.F.plainAttrs_list PySem.F.slot_list_append PySem.F.type_list_append mt_append (pv 1) (pa_cons (pe_tup (pa_cons pe_str (pa_cons (pe_xfP R.x R.no hp hz hf (pv 0)) pa_nil))) pa_nil))))
    pss_nil)
  (pss_cons (ps_if (pt_val (pe_callB (call_isP R.e hp hz hf) (by rfl) T.b_isinstance (by decide +kernel) (pa_cons (pv 0) (pa_cons (C8.pe_gc rfl g_Taken) pa_nil))))
    (pss_one ps_never)
    pss_nil)
  (pss_cons (ps_if (pt_val (pe_callB (call_isP R.e hp hz hf) (by rfl) T.b_isinstance (by decide +kernel) (pa_cons (pv 0) (pa_cons (C8.pe_gc rfl g_NotAllowed) pa_nil))))
    (pss_one ps_never)
    pss_nil)
  (pss_cons (ps_if (pt_val (pe_callB (call_isP R.e hp hz hf) (by rfl) T.b_isinstance (by decide +kernel) (pa_cons (pv 0) (pa_cons (C8.pe_gc rfl g_WrongState) pa_nil))))
    (pss_one ps_never)
    pss_nil)
  (pss_cons (ps_if (pt_val (pe_callB (call_isP R.e hp hz hf) (by rfl) T.b_isinstance (by decide +kernel) (pa_cons (pv 0) (pa_cons (C8.pe_gc rfl g_RingOfWaits) pa_nil))))
    (pss_one ps_never)
    pss_nil)
  (pss_cons (ps_if (pt_val (pe_callB (call_isP R.e hp hz hf) (by rfl) T.b_isinstance (by decide +kernel) (pa_cons (pv 0) (pa_cons (C8.pe_gc rfl g_Full) pa_nil))))
    (pss_one ps_never)
    pss_nil)
  (pss_cons (ps_if (pt_val (pe_callB (call_isP R.e hp hz hf) (by rfl) T.b_isinstance (by decide +kernel) (pa_cons (pv 0) (pa_cons (C8.pe_gc rfl g_Stopped) pa_nil))))
    (pss_one ps_never)
    pss_nil)
  (pss_cons (ps_if (PW.pt (pw_or (pt_cmpR op_ne (pe_callB Wk.b_len (by rfl) T.b_len (by decide +kernel) (pa_cons (pv 1) pa_nil)) pe_int (nomark _)) (pw_or (pt_not (pt_val (pe_callB (call_isP R.e hp hz hf) (by rfl) T.b_isinstance (by decide +kernel) (pa_cons (pv 0) (pa_cons (C8.pe_gc rfl g_WardError) pa_nil))))) (pw_or1 (pt_not (pt_val (pe_callB (call_isP R.e hp hz hf) (by rfl) T.b_isinstance (by decide +kernel) (pa_cons (pv 0) (pa_cons (pe_bltn (v := .ty "ValueError") (by rfl) R.vErr (by decide +kernel) rfl) pa_nil)))))))))
    (pss_one ps_never)
    pss_nil)
  (pss_cons (ps_if (pt_cmpR op_ne (pe_callB (call_isP R.e hp hz hf) (by rfl) T.b_isinstance (by decide +kernel) (pa_cons (pv 0) (pa_cons (C8.pe_gc rfl g_SourceError) pa_nil))) (pe_cmpR op_in_seq (pe_ix ix_seq (pe_ix ix_list (pv 1) pe_int (fun _ _ => rfl)) pe_int (fun _ _ => rfl)) (pe_tup (pa_cons pe_str (pa_cons pe_str (pa_cons pe_str (pa_cons pe_str pa_nil))))) (by rfl)) (nomark _))
    (pss_one ps_never)
    pss_nil)
  (pss_one (ps_ret (pe_ix ix_list (pv 1) pe_int (fun _ _ => rfl))))))))))))))))))), ?_⟩
  walk_at "s"
  refine w_new (by decide) fun p2 H2 m2 => ?_
  have h2 := m2.keep.at0 hd
  walk_at "s"
  refine c_isP h2 (fun u r => r) n0 ?_
  walk_at "s"
  refine c_isP h2 (fun u r => r) n1 ?_
  walk_at "s"
  refine c_isP h2 (fun u r => r) n2 ?_
  walk_at "s"
  refine c_isP h2 (fun u r => r) n3 ?_
  walk_at "s"
  refine c_isP h2 (fun u r => r) n4 ?_
  walk_at "s"
  refine c_isP h2 (fun u r => r) n5 ?_
  walk_at "s"
  refine w_kbm (ty_list (SqL.of m2.at_)) ?_
  walk_at "s"
  refine w_var rfl ⟨rfl, rfl, dd, _, v, rfl, h2, rfl, ?_⟩
  walk_at "s"
  refine w_new (by walk_at "sz") fun p3 H3 m3 => ?_
  walk_at "s"
  refine w_append (m3.keep.at0 m2.at_) (by decide) fun H4 g4 => ?_
  have t4 := g4.keep.at1 (m3.ne' m2.at_) m3.at_
  have d4 := g4.keep.at1 (m2.ne hd) (m3.keep.at0 h2)
  have U4 : Upt [] H H4 := Upt.chgNew (m2.keep.trans m3.keep) m2.no g4
  walk_at "s"
  refine c_isP d4 (fun u r => r) n6 ?_
  walk_at "s"
  refine c_isP d4 (fun u r => r) n7 ?_
  walk_at "s"
  refine c_isP d4 (fun u r => r) n8 ?_
  walk_at "s"
  refine c_isP d4 (fun u r => r) n9 ?_
  walk_at "s"
  refine c_isP d4 (fun u r => r) n10 ?_
  walk_at "s"
  refine c_isP d4 (fun u r => r) n11 ?_
  walk_at "s"
  refine c_lenL (SqL.of g4.at_) ?_
  walk_at "s"
  refine c_isP d4 (fun u r => r) R.isW ?_
  walk_at "s"
  refine c_isP d4 (fun u r => by cases r; rfl) R.isV ?_
  walk_at "s"
  refine c_isP d4 (fun u r => r) n12 ?_
  walk_at "s"
  refine w_ixL (SqL.of g4.at_) rfl ?_
  walk_at "s"
  refine w_ixAny (.inr (SqT.of t4)) rfl ?_
  walk_at "s"
  refine w_new (by decide) fun p5 H5 m5 => ?_
  refine w_inT m5.at_ rfl rfl (b := false) (by decide +kernel) ?_
  walk_at "s"
  refine w_ixL (SqL.of (m5.keep.at0 g4.at_)) rfl ?_
  exact q p3 H5 (U4.trans m5.keep) (by
    cases e : H p3 with
    | none => rfl
    | some o => exact absurd (m2.keep.at0 e) (by rw [m3.no]; simp)) (m5.keep.at0 t4)

/-- the error is of one of the classes -/
def sp_err (C0 : Addr) : SpP := fun p vs H Q E => sp_errX "Unknown" C0 p vs H Q E
theorem e_err {C0 W f0 f : Addr} {fd : FuncData} (T : Txt K mg aREG aOPS) (R0 : ErrX K mg "Unknown" C0 W f0) (d : FunT K "_law_error" s__law_error f fd) : FnE P w K mg base C8.CX0 1 f fd ["e"] (sp_err C0) := by
  obtain ⟨oc, od, dV, kV, doc, pm, an, cdv, ct, osl, rfl, lk, hcd, _, _⟩ := d.ex
  refine fn_ofE lk hcd sc__law_error (fun p vs H Q E h => ?_) (fun A outer s H vs Q E p hot hr h => ?_)
  · rcases h with ⟨dd, z, rfl, _⟩ <;> rfl
  · rcases h with h
    · exact b_errUnknown T R0 f cdv A outer s H vs Q E p hot hr h
/-- the same, in an except suite -/
def sp_errA (nm : Str) (C a : Addr) (cls : Value) (d : Option Addr) : Sp := fun vs H Q _ => ∃ (dd : Addr) (v : V), vs = [.ref a] ∧ cls = .ref C ∧ d = some dd ∧ H dd = some (.xd [("what", v)]) ∧ ∀ t H', Upt [] H H' → H t = none → H' t = some (.tup [.str nm, v]) → Q (.ref t) H'
def sp_errS (C0 a : Addr) (cls : Value) (d : Option Addr) : Sp := fun vs H Q E => sp_errA "Unknown" C0 a cls d vs H Q E
theorem imp_err {C0 a : Addr} {oe : Obj} {cls : Value} {d : Option Addr} (hz : L2N.Zn cls d oe) (hf : ∃ vs, oe.data = .fields vs) : ∀ vs H Q E, sp_errS C0 a cls d vs H Q E → sp_err C0 (a, oe) vs H Q E := fun vs H Q E h => by
  have one : ∀ {nm : Str} {C : Addr}, sp_errA nm C a cls d vs H Q E → sp_errX nm C (a, oe) vs H Q E := fun ⟨dd, z, h1, h2, h3, h4, q⟩ => ⟨dd, z, h1, by subst h2 h3; exact ⟨hz.1, hz.2.1⟩, hf, h4, q⟩
  rcases h with h
  · exact (one h)
theorem hot_err {A : Around} {a : Addr} {oe : Obj} {cls : Value} {d : Option Addr} (hz : L2N.Zn cls d oe) (hf : ∃ vs, oe.data = .fields vs) : L2H.Hot1 (A.mark (some (.ref a))) (a, oe) := ⟨rfl, let ⟨vs, e⟩ := hf; ⟨vs, e, hz.2.2 vs e⟩⟩
theorem rH {A : Around} {x : Option Value} {j : Nat} (hr : Room (j + 1) A) : L2H.RoomH 1 (A.mark x) := L2H.RoomH.mono (k := j + 1) ⟨hr.dp, hr.un⟩ (by omega)
end
end K05
set_option Elab.async false
set_option linter.all false
set_option maxRecDepth 100000
set_option maxHeartbeats 4000000
namespace K05
open PySem PySem.Spec PyProof.Rows L2 Wk
local macro_rules | `(tactic| walk_at "u1") => `(tactic| fail "no more")
local macro_rules | `(tactic| walk_at "pos") => `(tactic| first | assumption | omega | decide | (simp only [Int.ofNat_eq_natCast] at *; omega))
local macro_rules | `(tactic| walk_at "sz") => `(tactic| first
  | (simp only [List.length_cons, List.length_nil]; decide)
  | exact Evl.sz_of (by omega)
  | exact Evl.sz_lt (by omega)
  | exact Evl.sz_of (by simp only [List.length_map, List.length_append, List.length_cons, List.length_nil, List.length_replicate]; omega)
  | exact Evl.sz_lt (by simp only [List.length_map, List.length_append, List.length_cons, List.length_nil, List.length_replicate]; omega))
local macro_rules | `(tactic| walk_at "cond") => `(tactic| first
  | exact Or.inr ⟨by decide, by decide⟩
  | (show (0 : Int) < _; first | decide | assumption | omega)
  | exact Or.inl ⟨by omega, by omega⟩
  | exact Or.inr ⟨by omega, by omega⟩
  | exact ⟨by decide, by decide, by decide⟩
  | exact log2_lt (by omega) (by omega)
  | exact ⟨by omega, by omega⟩)
local macro_rules | `(tactic| walk_at "ty") => `(tactic| first
  | exact ty_int | exact ty_bl | exact ty_str | exact ty_non
  | exact ty_L (by assumption) | exact ty_T (by assumption)
  | exact ty_L (SqL.of (by assumption)) | exact ty_T (SqT.of (by assumption)))
local macro_rules | `(tactic| walk_at "kit") => `(tactic| first
  | exact k_ii | exact k_ib | exact k_is | exact k_il | exact k_it
  | exact k_bb | exact k_bi | exact k_bs | exact k_bl | exact k_bt
  | exact k_ss | exact k_sb | exact k_si | exact k_sl | exact k_st
  | exact k_ll | exact k_lb | exact k_li | exact k_ls | exact k_lt
  | exact k_tt | exact k_tb | exact k_ti | exact k_ts | exact k_tl
  | exact k_nn | exact k_ni | exact k_ns | exact k_nl | exact k_nt)
local macro_rules | `(tactic| walk_at "s1") => `(tactic| first
  | with_reducible refine w_seq ?_
  | with_reducible refine w_set ?_
  | with_reducible refine w_op ?_
  | ((with_reducible refine' w_var ?h1 ?_); (case h1 => rfl))
  | with_reducible refine w_c ?_
  | with_reducible refine w_cb ?_
  | with_reducible refine w_cons ?_
  | with_reducible refine w_nil ?_
  | with_reducible refine w_I0 ?_
  | ((with_reducible refine' w_I ?c1 ?_); case c1 => walk_at "cond")
  | with_reducible refine w_ret ?_
  | with_reducible refine w_next ?_
  | with_reducible refine w_ifS ?_
  | with_reducible refine w_test ?_
  | with_reducible refine w_tB ?_
  | with_reducible refine w_k ?_
  | with_reducible refine w_eqI ?_
  | with_reducible refine w_neI ?_
  | with_reducible refine w_eqS ?_
  | with_reducible refine w_neS ?_
  | with_reducible refine w_and ?_
  | with_reducible refine w_or ?_
  | with_reducible refine w_not ?_
  | with_reducible refine w_andV ?_
  | with_reducible refine w_orV ?_
  | with_reducible refine w_notV ?_
  | with_reducible refine w_ifE ?_
  | with_reducible refine w_true ?_
  | with_reducible refine w_false ?_
  | with_reducible refine w_ntrue ?_
  | with_reducible refine w_nfalse ?_
  | with_reducible refine w_call ?_
  | with_reducible refine c_int ?_
  | with_reducible refine c_abs ?_
  | with_reducible refine c_max ?_
  | with_reducible refine c_min ?_
  | with_reducible refine w_drop ?_
  | with_reducible refine w_sfld ?_
  | with_reducible refine w_meth ?_
  | with_reducible refine w_make ?_
  | with_reducible refine w_prop ?_
  | with_reducible refine w_callK ?_
  | with_reducible refine w_callN ?_
  | with_reducible refine w_star ?_
  | with_reducible refine w_gcons ?_
  | with_reducible refine w_gname ?_
  | with_reducible refine w_gnil ?_
  | with_reducible refine w_retN ?_
  | with_reducible refine w_tup ?_
  | with_reducible refine w_lst ?_
  | with_reducible refine w_fld ?_
  | with_reducible refine w_bm ?_
  | with_reducible refine w_bm0 ?_
  | with_reducible refine w_forL ?_
  | with_reducible refine w_forT ?_
  | with_reducible refine w_forS ?_
  | with_reducible refine w_forR ?_
  | with_reducible refine w_lcR ?_
  | with_reducible refine w_lcL ?_
  | with_reducible refine w_lcT ?_
  | with_reducible refine w_isN ?_
  | with_reducible refine w_notN ?_
  | with_reducible refine w_asg ?_
  | with_reducible refine w_gsub ?_
  | ((with_reducible refine' w_aug ?h1 ?_); (case h1 => rfl))
  | with_reducible refine w_augS ?_
  | with_reducible refine w_ipI ?_
  | with_reducible refine w_un ?_
  | with_reducible refine w_U ?_
  | ((with_reducible refine' w_iteF ?f1 ?_); case f1 => (first | (intro h; cases h; done) | decide))
  | ((with_reducible refine' w_iteT ?f1 ?_); case f1 => rfl)
  | ((with_reducible refine' w_iteNF ?f1 ?_); case f1 => rfl)
  | ((with_reducible refine' w_iteNT ?f1 ?_); case f1 => (first | (intro h; cases h; done) | decide))
  | ((with_reducible refine' c_isi ?t1 ?k1 ?_); (case t1 => walk_at "ty"); (case k1 => walk_at "kit"))
  | ((with_reducible refine' w_eq ?e1 ?_); case e1 => rfl)
  | ((with_reducible refine' w_ne ?e1 ?_); case e1 => rfl)
  | walk_at "u1")
local macro_rules | `(tactic| walk_at "s") => `(tactic| repeat walk_at "s1")
local macro_rules | `(tactic| walk_at "mem") => `(tactic| first | with_reducible exact List.mem_cons_self .. | ((with_reducible refine' List.mem_cons_of_mem _ ?q); (case q => walk_at "mem")) | assumption | ((with_reducible refine' List.mem_append_right _ ?q); (case q => walk_at "mem")) | (exact List.mem_append_left _ (by assumption)))
local macro_rules | `(tactic| walk_at "pk") => `(tactic| first | with_reducible exact Pk.here | ((with_reducible refine' Pk.there ?q); (case q => walk_at "pk")) | ((with_reducible refine' Pk.app ?q); (case q => walk_at "pk")))
local macro_rules | `(tactic| walk_at "pkb") => `(tactic| first | with_reducible exact PkB.here | ((with_reducible refine' PkB.there ?q); (case q => walk_at "pkb")) | ((with_reducible refine' PkB.app ?q); (case q => walk_at "pkb")))
local macro_rules | `(tactic| walk_at "spl") => `(tactic| first | with_reducible exact Spl.nil | ((with_reducible refine' Spl.cons ?h ?t); (case h => walk_at "pk"); (case t => walk_at "spl")) | ((with_reducible refine' Spl.blk ?h ?t); (case h => walk_at "pkb"); (case t => walk_at "spl")))
local macro_rules | `(tactic| walk_at "sbx") => `(tactic| first | with_reducible exact Sb.refl | with_reducible exact Sb.nil | with_reducible exact Sb.left | ((with_reducible refine' Sb.cons ?h ?t); (case h => walk_at "pk"); (case t => walk_at "sbx")) | ((with_reducible refine' Sb.blk ?h ?t); (case h => walk_at "pkb"); (case t => walk_at "sbx")) | ((with_reducible refine' Sb.drop ?q); (case q => walk_at "sbx")) | ((with_reducible refine' Sb.right ?q); (case q => walk_at "sbx")))
local macro_rules | `(tactic| walk_at "hd") => `(tactic| first | assumption | exact Hd.sb (by assumption) (by walk_at "sbx"))
local macro_rules | `(tactic| walk_at "sq") => `(tactic| first
  | assumption
  | exact Hd.sqL (by assumption) (by walk_at "mem")
  | exact Hd.sqT (by assumption) (by walk_at "mem")
  | exact Hd.sqF (by assumption) (by walk_at "mem")
  | (refine .inl ?_; walk_at "sq")
  | (refine .inr ?_; walk_at "sq"))
local macro_rules | `(tactic| walk_at "at") => `(tactic| first | rfl | assumption | exact atI_nat (by assumption))
local macro_rules | `(tactic| walk_at "dn1") => `(tactic| first
  | exact Dn.int | exact Dn.str | exact Dn.non | exact Dn.bl | assumption
  | ((refine' Dn.tp ?a1 ?m1 ?l1 ?p1); (case a1 => assumption); (case m1 => walk_at "mem"); (case l1 => (simp only [List.length_cons, List.length_nil]; omega)); (case p1 => walk_at "dns"))
  | ((refine' Dn.lt ?a1 ?m1 ?l1 ?p1); (case a1 => assumption); (case m1 => walk_at "mem"); (case l1 => (simp only [List.length_cons, List.length_nil]; omega)); (case p1 => walk_at "dns")))
local macro_rules | `(tactic| walk_at "dns") => `(tactic| first | exact Paired.nil | exact Dn.ints | ((refine' Paired.cons ?a1 ?b1); (case a1 => walk_at "dn1"); (case b1 => walk_at "dns")))
local macro_rules | `(tactic| walk_at "g1") => `(tactic| first
  | ((with_reducible refine' g_ixI ?h1 ?h2 ?h3 ?_); (case h1 => assumption); (case h2 => walk_at "mem"); (case h3 => omega); intro z hz)
  | ((with_reducible refine' g_ixIT ?h1 ?h2 ?h3 ?_); (case h1 => assumption); (case h2 => walk_at "mem"); (case h3 => omega); intro z hz)
  | ((with_reducible refine' g_setI ?h1 ?h2 ?h3 ?_); (case h1 => assumption); (case h2 => walk_at "pk"); (case h3 => omega); intro H2 hh2)
  | ((with_reducible refine' w_ixL ?h1 ?h2 ?_); (case h1 => walk_at "sq"); (case h2 => walk_at "at"))
  | ((with_reducible refine' w_ixT ?h1 ?h2 ?_); (case h1 => walk_at "sq"); (case h2 => walk_at "at"))
  | ((with_reducible refine' w_ixAny ?h1 ?h2 ?_); (case h1 => walk_at "sq"); (case h2 => walk_at "at"))
  | ((with_reducible refine' c_lenA ?h1 ?_); (case h1 => walk_at "sq"))
  | ((with_reducible refine' c_isi ?t1 ?k1 ?_); (case t1 => first | exact ty_T (by walk_at "sq") | exact ty_L (by walk_at "sq")); (case k1 => walk_at "kit"))
  | ((with_reducible refine' g_lst ?h1 ?h2 ?_); (case h1 => assumption); (case h2 => walk_at "sz"); intro p H2 hh2)
  | ((with_reducible refine' g_tup ?h1 ?h2 ?_); (case h1 => assumption); (case h2 => walk_at "sz"); intro p H2 hh2)
  | ((with_reducible refine' g_dict ?h1 ?_); (case h1 => assumption); intro p H2 hh2)
  | ((with_reducible refine' g_listL ?h1 ?h2 ?_); (case h1 => assumption); (case h2 => walk_at "sq"); intro p H2 hh2)
  | ((with_reducible refine' g_listT ?h1 ?h2 ?_); (case h1 => assumption); (case h2 => walk_at "sq"); intro p H2 hh2)
  | ((with_reducible refine' g_tupL ?h1 ?h2 ?_); (case h1 => assumption); (case h2 => walk_at "sq"); intro p H2 hh2)
  | ((with_reducible refine' g_set ?h1 ?h2 ?h3 ?_); (case h1 => assumption); (case h2 => walk_at "pk"); (case h3 => first | rfl | assumption | exact Evl.ixN_nat (by first | omega | (simp only [List.length_cons, List.length_nil]; omega))); intro H2 hh2)
  | ((with_reducible refine' g_kbm ?h1 ?h2 ?_); (case h1 => assumption); (case h2 => walk_at "mem"))
  | ((with_reducible refine' g_kbm0 ?h1 ?h2 ?_); (case h1 => assumption); (case h2 => walk_at "mem"))
  | ((with_reducible refine' g_app ?h1 ?h2 ?h3 ?_); (case h1 => assumption); (case h2 => walk_at "pk"); (case h3 => walk_at "sz"); intro H2 hh2)
  | ((with_reducible refine' g_kapp ?h1 ?h2 ?h3 ?_); (case h1 => assumption); (case h2 => walk_at "pk"); (case h3 => walk_at "sz"); intro H2 hh2)
  | ((with_reducible refine' g_fld ?h1 ?h2 ?h3 ?h4 ?h5 ?_); (case h1 => assumption); (case h2 => walk_at "mem"); (case h3 => assumption); (case h4 => assumption); (case h5 => rfl))
  | ((with_reducible refine' g_sfld ?h1 ?h2 ?h3 ?h4 ?h5 ?_); (case h1 => assumption); (case h2 => walk_at "pk"); (case h3 => assumption); (case h4 => assumption); (case h5 => decide); intro H2 hh2)
  | ((with_reducible refine' g_meth ?h1 ?h2 ?h3 ?_); (case h1 => assumption); (case h2 => walk_at "mem"); (case h3 => rfl))
  | ((with_reducible refine' g_prop ?h1 ?h2 ?_); (case h1 => assumption); (case h2 => walk_at "mem"))
  | ((with_reducible refine' g_make ?h1 ?_); (case h1 => assumption); intro x H2 hh2)
  | ((with_reducible refine' g_cat ?h1 ?h2 ?h3 ?h4 ?_); (case h1 => assumption); (case h2 => walk_at "mem"); (case h3 => walk_at "mem"); (case h4 => walk_at "sz"); intro p H2 hh2)
  | ((with_reducible refine' g_inT ?h1 ?h2 ?h3 ?h4 ?h5 ?_); (case h1 => assumption); (case h2 => walk_at "mem"); (case h3 => rfl); (case h4 => rfl); (case h5 => rfl)))
local macro_rules | `(tactic| walk_at "gs") => `(tactic| repeat first | walk_at "s1" | walk_at "g1")
local macro_rules | `(tactic| walk_at "ite") => `(tactic| first
  | ((with_reducible refine' w_iteT ?h1 ?_); (case h1 => omega))
  | ((with_reducible refine' w_iteF ?h1 ?_); (case h1 => omega))
  | (with_reducible refine w_ite ?_ ?_ <;> intro hq)
  | ((with_reducible refine' w_iteNT ?h1 ?_); (case h1 => omega))
  | ((with_reducible refine' w_iteNF ?h1 ?_); (case h1 => omega))
  | (with_reducible refine w_iteN ?_ ?_ <;> intro hq))
local macro_rules | `(tactic| walk_at "go") => `(tactic| repeat' first | walk_at "s1" | walk_at "g1" | walk_at "ite")
local macro_rules | `(tactic| walk_at "g1") => `(tactic| first
  | ((with_reducible refine' g_take1 ?h1 ?h2 ?h3 ?h4 ?_); (case h1 => assumption); (case h2 => walk_at "spl"); (case h3 => omega); (case h4 => omega); intro k H2 hk1 hh2)
  | ((with_reducible refine' g_take ?h1 ?h2 ?h4 ?_); (case h1 => assumption); (case h2 => walk_at "spl"); (case h4 => omega); intro k H2 hk1 hh2)
  | ((with_reducible refine' g_betweenN ?h1 ?h2 ?h5 ?h3 ?h4 ?_); (case h1 => assumption); (case h2 => walk_at "spl"); (case h5 => omega); (case h3 => omega); (case h4 => omega); intro k H2 hk1 hk2 hh2)
  | ((with_reducible refine' g_between ?h1 ?h2 ?h3 ?h4 ?_); (case h1 => assumption); (case h2 => walk_at "spl"); (case h3 => omega); (case h4 => omega); intro k H2 hk1 hk2 hh2)
  | ((with_reducible refine' g_size ?h1 ?h2 ?h3 ?h4 ?_); (case h1 => assumption); (case h2 => walk_at "spl"); (case h3 => omega); (case h4 => omega); intro k H2 hk1 hh2)
  | ((with_reducible refine' g_word ?h1 ?h2 ?_); (case h1 => assumption); (case h2 => walk_at "spl"); intro k H2 hk1 hh2))
section
variable {P : Program} {w : World} {K : PySem.W.Frag} {mg : Str → Option Value} {base : Heap} {aREG aOPS : Addr}
section
variable {C CU W fU fE tP : Addr} {fdU fdE : FuncData}
def sp_usedX (C CU : Addr) : Sp := fun vs H Q E => ∃ (F hl pl : Addr) (ns : List Int) (f : Nat) (z : Int), vs = [.ref F, .int f] ∧ f ≤ 95 ∧ (∃ dx, H F = some (.ins C dx [("_holds", .ref hl), ("_pages", .ref pl)])) ∧ H hl = some (.lst (ns.map V.int)) ∧ ns[f]? = some z ∧
  (z ≠ 0 → Q .non H) ∧ (z = 0 → ∀ H' d, New H H' d (.xd [("what", .int f)]) → E (.ref CU) (some d) H')
theorem x_used (T : Txt K mg aREG aOPS) (L : FrC K C) (RU : ErrX K mg "Unknown" CU W fU) (dU : DefM K "__init__" "Unknown.__init__" s_Unknown____init__ [] fU fdU) (d : MetAt K C "_ask_used" "Frames._ask_used" s_Frames___ask_used) : MetN P w K mg base 4 C "_ask_used" (sp_usedX C CU) ["frame"] (fun vs zs => vs ++ zs) := by
  obtain ⟨f, fd, F, hc, hm⟩ := d
  have F : FunD K "_ask_used" "Frames._ask_used" (defArgs s_Frames___ask_used) (defBody s_Frames___ask_used) (defScope s_Frames___ask_used) [] [] f fd := F
  have bU : Binds K fdU ["self", "what"] [] := FunD.bindsN dU fun _ _ _ _ _ _ us hl => match us, hl with | [_, _], _ => rfl
  refine ⟨f, fd, ["self", "frame"], fun us ws => us ++ ws, hc, hm, F.ok sc_Frames___ask_used (fun vs H Q E h => ?_) (fun cdv A outer s H vs Q E hr h => ?_), F.bindsN fun _ _ _ _ _ _ us hl => match us, hl with | [_, _], _ => rfl, kbn0 F (fun r1 r2 => r1.append r2) fun _ _ _ _ _ _ us ws h1 h2 => match us, ws, h1, h2 with | [_], [_], _, _ => rfl⟩
  · obtain ⟨F, hl, pl, ns, f, z, rfl, _⟩ := h
    rfl
  · obtain ⟨Fa, hl, pl, ns, fr, z, rfl, hf, ⟨dx, hi⟩, hn, hz, q1, q2⟩ := h
    have F_U := f_UnknownI (P := P) (w := w) (base := base) (CX := L2N.CX P w) RU dU
    have tk := L2N.takes_of (X := cxOf (L2N.CX P w) P w K mg base nm_Frames___ask_used "Frames._ask_used" (defScope s_Frames___ask_used) f cdv A outer s H E) (E := E) rfl rfl rfl rfl
    refine ⟨_, (pss_one (ps_if (pt_cmpR op_eq (pe_ix ix_list (pe_fld (pv 0) rfl) (pv 1) (fun _ _ => rfl)) pe_int (nomark _))
    (pss_one (L2N.ps_raise rfl tk (pmk_oexN RU.o RU.init RU.fn F_U (hr.mono (by omega)) bU .nil passN rfl RU.g_C (pa_cons (pv 1) pa_nil))))
    pss_nil)), ?_⟩
    walk_at "s"
    refine w_kfld hi L.cl L.nh rfl ?_
    walk_at "s"
    refine w_ixL (v := .int z) (SqL.of hn) (atI_nat (by rw [List.getElem?_map, hz]; rfl)) ?_
    walk_at "s"
    refine w_ite (fun e => ?_) (fun e => ?_)
    · walk_at "s"
      exact w_mkW rfl ⟨fr, hf, rfl⟩ fun d H' n => q2 e H' d n
    · walk_at "s"
      exact q1 e
/-- an error with v -/
def Err (E : XK) (Cx : Addr) (v : V) (L : List Cell) : Prop := ∀ H' d, Hd H' ((d, fun o => o = .xd [("what", v)]) :: L) → E (.ref Cx) (some d) H'
theorem Err.new {E : XK} {Cx d : Addr} {v : V} {L : List Cell} {H H' : Hp} (e : Err E Cx v L) (h : Hd H L) (n : New H H' d (.xd [("what", v)])) : E (.ref Cx) (some d) H' := e H' d (h.new n rfl)
def sp_pageX (C CU : Addr) : Sp := fun vs H Q E => ∃ (F hl pl : Addr) (f : Nat) (S : St1) (ps : List Pg) (R : List Cell), vs = [.ref F, .int f] ∧ f < S.length ∧ S.length ≤ 96 ∧ PgOk S ps ∧ Hd H (frL F C hl pl S ps R) ∧
  (hat S f = 0 → Err E CU (.int f) (frL F C hl pl S ps R)) ∧ (0 < hat S f → ∀ p H', Hd H' (lstC p ((wat S f).map V.int) :: frL F C hl pl S ps R) → Q (.ref p) H')
theorem x_page (T : Txt K mg aREG aOPS) (L : FrC K C) (d : MetAt K C "page" "Frames.page" s_Frames__page) (c_Frames__ask_frame : C8.Met P w K mg base 4 C "_ask_frame" (sp_askF C) []) (cx_used : MetN P w K mg base 4 C "_ask_used" (sp_usedX C CU) ["frame"] (fun vs zs => vs ++ zs)) : MetN P w K mg base 5 C "page" (sp_pageX C CU) ["frame"] (fun vs zs => vs ++ zs) := by
  obtain ⟨f, fd, F, hc, hm⟩ := d
  have F : FunD K "page" "Frames.page" (defArgs s_Frames__page) (defBody s_Frames__page) (defScope s_Frames__page) [] [] f fd := F
  refine ⟨f, fd, ["self", "frame"], fun us ws => us ++ ws, hc, hm, F.ok sc_Frames__page (fun vs H Q E h => ?_) (fun cdv A outer s H vs Q E hr h => ?_), F.bindsN fun _ _ _ _ _ _ us hl => match us, hl with | [_, _], _ => rfl, kbn0 F (fun r1 r2 => r1.append r2) fun _ _ _ _ _ _ us ws h1 h2 => match us, ws, h1, h2 with | [_], [_], _, _ => rfl⟩
  · obtain ⟨Fa, hl, pl, fr, S, ps, R, rfl, _⟩ := h
    rfl
  · obtain ⟨Fa, hl, pl, fr, S, ps, R, rfl, hf, h96, ok, hh, q0, q1⟩ := h
    have tk := L2N.takes_of (X := cxOf (L2N.CX P w) P w K mg base nm_Frames__page "Frames.page" (defScope s_Frames__page) f cdv A outer s H E) (E := E) rfl rfl rfl rfl
    refine ⟨_, (pss_cons (ps_expr (C8.pe_mt c_Frames__ask_frame hr (by first | decide | omega) (pv 0) (pa_cons (pv 1) pa_nil)))
  (pss_cons (ps_expr (Wk.pe_mtN cx_used hr (by first | decide | omega) tk (pv 0) (pa_cons (pv 1) pa_nil)))
  (pss_one (ps_ret (pe_callTy Wk.b_list (by rfl) T.b_list (by decide +kernel) (pa_cons (pe_ix ix_list (pe_fld (pv 0) rfl) (pv 1) (fun _ _ => rfl)) pa_nil)))))), ?_⟩
    have hc := L.cl
    have nh := L.nh
    have np := L.np
    have h0 : Hd H (frI Fa C hl pl :: lstC hl ((hsI S).map V.int) :: lstC pl (ps.map pgV) :: (pgC ps ++ R)) := hh
    obtain ⟨dx, hi⟩ := h0.ins (List.mem_cons_self ..)
    have hn := h0.lst (a := hl) (by walk_at "mem")
    have hz := hsI_at hf
    have hlen := hsI_len (S := S)
    have hpl : (ps.map pgV).length = ps.length := List.length_map ..
    walk_at "gs"
    refine ⟨Fa, hl, pl, hsI S, fr, rfl, ⟨dx, hi⟩, hn, by rw [hsI_len]; exact hf, ?_⟩
    walk_at "gs"
    refine w_var rfl ⟨Fa, dx, _, rfl, hi, rfl, ?_⟩
    walk_at "gs"
    refine ⟨Fa, hl, pl, hsI S, fr, _, rfl, by omega, ⟨dx, hi⟩, hn, hz, fun hne => ?_, fun he H' d n => (q0 (by omega)).new hh n⟩
    have hpos : 0 < hat S fr := by omega
    obtain ⟨h8, a, hpg⟩ := ok.2 fr hf hpos
    have hpv : (ps.map pgV)[fr]? = some (.ref a) := by rw [List.getElem?_map, hpg]; rfl
    have hpm : lstC a ((wat S fr).map V.int) ∈ frI Fa C hl pl :: lstC hl ((hsI S).map V.int) :: lstC pl (ps.map pgV) :: (pgC ps ++ R) := List.mem_cons_of_mem _ (List.mem_cons_of_mem _ (List.mem_cons_of_mem _ (List.mem_append_left _ (pgC_mem hpg))))
    walk_at "gs"
    rename_i p H2 h2
    exact q1 hpos p H2 h2

end
end
end K05
set_option Elab.async false
set_option linter.all false
set_option maxRecDepth 100000
set_option maxHeartbeats 4000000
namespace K05
open PySem PySem.Spec PyProof.Rows L2 Wk
local macro_rules | `(tactic| walk_at "u1") => `(tactic| fail "no more")
local macro_rules | `(tactic| walk_at "pos") => `(tactic| first | assumption | omega | decide | (simp only [Int.ofNat_eq_natCast] at *; omega))
local macro_rules | `(tactic| walk_at "sz") => `(tactic| first
  | (simp only [List.length_cons, List.length_nil]; decide)
  | exact Evl.sz_of (by omega)
  | exact Evl.sz_lt (by omega)
  | exact Evl.sz_of (by simp only [List.length_map, List.length_append, List.length_cons, List.length_nil, List.length_replicate]; omega)
  | exact Evl.sz_lt (by simp only [List.length_map, List.length_append, List.length_cons, List.length_nil, List.length_replicate]; omega))
local macro_rules | `(tactic| walk_at "cond") => `(tactic| first
  | exact Or.inr ⟨by decide, by decide⟩
  | (show (0 : Int) < _; first | decide | assumption | omega)
  | exact Or.inl ⟨by omega, by omega⟩
  | exact Or.inr ⟨by omega, by omega⟩
  | exact ⟨by decide, by decide, by decide⟩
  | exact log2_lt (by omega) (by omega)
  | exact ⟨by omega, by omega⟩)
local macro_rules | `(tactic| walk_at "ty") => `(tactic| first
  | exact ty_int | exact ty_bl | exact ty_str | exact ty_non
  | exact ty_L (by assumption) | exact ty_T (by assumption)
  | exact ty_L (SqL.of (by assumption)) | exact ty_T (SqT.of (by assumption)))
local macro_rules | `(tactic| walk_at "kit") => `(tactic| first
  | exact k_ii | exact k_ib | exact k_is | exact k_il | exact k_it
  | exact k_bb | exact k_bi | exact k_bs | exact k_bl | exact k_bt
  | exact k_ss | exact k_sb | exact k_si | exact k_sl | exact k_st
  | exact k_ll | exact k_lb | exact k_li | exact k_ls | exact k_lt
  | exact k_tt | exact k_tb | exact k_ti | exact k_ts | exact k_tl
  | exact k_nn | exact k_ni | exact k_ns | exact k_nl | exact k_nt)
local macro_rules | `(tactic| walk_at "s1") => `(tactic| first
  | with_reducible refine w_seq ?_
  | with_reducible refine w_set ?_
  | with_reducible refine w_op ?_
  | ((with_reducible refine' w_var ?h1 ?_); (case h1 => rfl))
  | with_reducible refine w_c ?_
  | with_reducible refine w_cb ?_
  | with_reducible refine w_cons ?_
  | with_reducible refine w_nil ?_
  | with_reducible refine w_I0 ?_
  | ((with_reducible refine' w_I ?c1 ?_); case c1 => walk_at "cond")
  | with_reducible refine w_ret ?_
  | with_reducible refine w_next ?_
  | with_reducible refine w_ifS ?_
  | with_reducible refine w_test ?_
  | with_reducible refine w_tB ?_
  | with_reducible refine w_k ?_
  | with_reducible refine w_eqI ?_
  | with_reducible refine w_neI ?_
  | with_reducible refine w_eqS ?_
  | with_reducible refine w_neS ?_
  | with_reducible refine w_and ?_
  | with_reducible refine w_or ?_
  | with_reducible refine w_not ?_
  | with_reducible refine w_andV ?_
  | with_reducible refine w_orV ?_
  | with_reducible refine w_notV ?_
  | with_reducible refine w_ifE ?_
  | with_reducible refine w_true ?_
  | with_reducible refine w_false ?_
  | with_reducible refine w_ntrue ?_
  | with_reducible refine w_nfalse ?_
  | with_reducible refine w_call ?_
  | with_reducible refine c_int ?_
  | with_reducible refine c_abs ?_
  | with_reducible refine c_max ?_
  | with_reducible refine c_min ?_
  | with_reducible refine w_drop ?_
  | with_reducible refine w_sfld ?_
  | with_reducible refine w_meth ?_
  | with_reducible refine w_make ?_
  | with_reducible refine w_prop ?_
  | with_reducible refine w_callK ?_
  | with_reducible refine w_callN ?_
  | with_reducible refine w_star ?_
  | with_reducible refine w_gcons ?_
  | with_reducible refine w_gname ?_
  | with_reducible refine w_gnil ?_
  | with_reducible refine w_retN ?_
  | with_reducible refine w_tup ?_
  | with_reducible refine w_lst ?_
  | with_reducible refine w_fld ?_
  | with_reducible refine w_bm ?_
  | with_reducible refine w_bm0 ?_
  | with_reducible refine w_forL ?_
  | with_reducible refine w_forT ?_
  | with_reducible refine w_forS ?_
  | with_reducible refine w_forR ?_
  | with_reducible refine w_lcR ?_
  | with_reducible refine w_lcL ?_
  | with_reducible refine w_lcT ?_
  | with_reducible refine w_isN ?_
  | with_reducible refine w_notN ?_
  | with_reducible refine w_asg ?_
  | with_reducible refine w_gsub ?_
  | ((with_reducible refine' w_aug ?h1 ?_); (case h1 => rfl))
  | with_reducible refine w_augS ?_
  | with_reducible refine w_ipI ?_
  | with_reducible refine w_un ?_
  | with_reducible refine w_U ?_
  | ((with_reducible refine' w_iteF ?f1 ?_); case f1 => (first | (intro h; cases h; done) | decide))
  | ((with_reducible refine' w_iteT ?f1 ?_); case f1 => rfl)
  | ((with_reducible refine' w_iteNF ?f1 ?_); case f1 => rfl)
  | ((with_reducible refine' w_iteNT ?f1 ?_); case f1 => (first | (intro h; cases h; done) | decide))
  | ((with_reducible refine' c_isi ?t1 ?k1 ?_); (case t1 => walk_at "ty"); (case k1 => walk_at "kit"))
  | ((with_reducible refine' w_eq ?e1 ?_); case e1 => rfl)
  | ((with_reducible refine' w_ne ?e1 ?_); case e1 => rfl)
  | walk_at "u1")
local macro_rules | `(tactic| walk_at "s") => `(tactic| repeat walk_at "s1")
local macro_rules | `(tactic| walk_at "mem") => `(tactic| first | with_reducible exact List.mem_cons_self .. | ((with_reducible refine' List.mem_cons_of_mem _ ?q); (case q => walk_at "mem")) | assumption | ((with_reducible refine' List.mem_append_right _ ?q); (case q => walk_at "mem")) | (exact List.mem_append_left _ (by assumption)))
local macro_rules | `(tactic| walk_at "pk") => `(tactic| first | with_reducible exact Pk.here | ((with_reducible refine' Pk.there ?q); (case q => walk_at "pk")) | ((with_reducible refine' Pk.app ?q); (case q => walk_at "pk")))
local macro_rules | `(tactic| walk_at "pkb") => `(tactic| first | with_reducible exact PkB.here | ((with_reducible refine' PkB.there ?q); (case q => walk_at "pkb")) | ((with_reducible refine' PkB.app ?q); (case q => walk_at "pkb")))
local macro_rules | `(tactic| walk_at "spl") => `(tactic| first | with_reducible exact Spl.nil | ((with_reducible refine' Spl.cons ?h ?t); (case h => walk_at "pk"); (case t => walk_at "spl")) | ((with_reducible refine' Spl.blk ?h ?t); (case h => walk_at "pkb"); (case t => walk_at "spl")))
local macro_rules | `(tactic| walk_at "sbx") => `(tactic| first | with_reducible exact Sb.refl | with_reducible exact Sb.nil | with_reducible exact Sb.left | ((with_reducible refine' Sb.cons ?h ?t); (case h => walk_at "pk"); (case t => walk_at "sbx")) | ((with_reducible refine' Sb.blk ?h ?t); (case h => walk_at "pkb"); (case t => walk_at "sbx")) | ((with_reducible refine' Sb.drop ?q); (case q => walk_at "sbx")) | ((with_reducible refine' Sb.right ?q); (case q => walk_at "sbx")))
local macro_rules | `(tactic| walk_at "hd") => `(tactic| first | assumption | exact Hd.sb (by assumption) (by walk_at "sbx"))
local macro_rules | `(tactic| walk_at "sq") => `(tactic| first
  | assumption
  | exact Hd.sqL (by assumption) (by walk_at "mem")
  | exact Hd.sqT (by assumption) (by walk_at "mem")
  | exact Hd.sqF (by assumption) (by walk_at "mem")
  | (refine .inl ?_; walk_at "sq")
  | (refine .inr ?_; walk_at "sq"))
local macro_rules | `(tactic| walk_at "at") => `(tactic| first | rfl | assumption | exact atI_nat (by assumption))
local macro_rules | `(tactic| walk_at "dn1") => `(tactic| first
  | exact Dn.int | exact Dn.str | exact Dn.non | exact Dn.bl | assumption
  | ((refine' Dn.tp ?a1 ?m1 ?l1 ?p1); (case a1 => assumption); (case m1 => walk_at "mem"); (case l1 => (simp only [List.length_cons, List.length_nil]; omega)); (case p1 => walk_at "dns"))
  | ((refine' Dn.lt ?a1 ?m1 ?l1 ?p1); (case a1 => assumption); (case m1 => walk_at "mem"); (case l1 => (simp only [List.length_cons, List.length_nil]; omega)); (case p1 => walk_at "dns")))
local macro_rules | `(tactic| walk_at "dns") => `(tactic| first | exact Paired.nil | exact Dn.ints | ((refine' Paired.cons ?a1 ?b1); (case a1 => walk_at "dn1"); (case b1 => walk_at "dns")))
local macro_rules | `(tactic| walk_at "g1") => `(tactic| first
  | ((with_reducible refine' g_ixI ?h1 ?h2 ?h3 ?_); (case h1 => assumption); (case h2 => walk_at "mem"); (case h3 => omega); intro z hz)
  | ((with_reducible refine' g_ixIT ?h1 ?h2 ?h3 ?_); (case h1 => assumption); (case h2 => walk_at "mem"); (case h3 => omega); intro z hz)
  | ((with_reducible refine' g_setI ?h1 ?h2 ?h3 ?_); (case h1 => assumption); (case h2 => walk_at "pk"); (case h3 => omega); intro H2 hh2)
  | ((with_reducible refine' w_ixL ?h1 ?h2 ?_); (case h1 => walk_at "sq"); (case h2 => walk_at "at"))
  | ((with_reducible refine' w_ixT ?h1 ?h2 ?_); (case h1 => walk_at "sq"); (case h2 => walk_at "at"))
  | ((with_reducible refine' w_ixAny ?h1 ?h2 ?_); (case h1 => walk_at "sq"); (case h2 => walk_at "at"))
  | ((with_reducible refine' c_lenA ?h1 ?_); (case h1 => walk_at "sq"))
  | ((with_reducible refine' c_isi ?t1 ?k1 ?_); (case t1 => first | exact ty_T (by walk_at "sq") | exact ty_L (by walk_at "sq")); (case k1 => walk_at "kit"))
  | ((with_reducible refine' g_lst ?h1 ?h2 ?_); (case h1 => assumption); (case h2 => walk_at "sz"); intro p H2 hh2)
  | ((with_reducible refine' g_tup ?h1 ?h2 ?_); (case h1 => assumption); (case h2 => walk_at "sz"); intro p H2 hh2)
  | ((with_reducible refine' g_dict ?h1 ?_); (case h1 => assumption); intro p H2 hh2)
  | ((with_reducible refine' g_listL ?h1 ?h2 ?_); (case h1 => assumption); (case h2 => walk_at "sq"); intro p H2 hh2)
  | ((with_reducible refine' g_listT ?h1 ?h2 ?_); (case h1 => assumption); (case h2 => walk_at "sq"); intro p H2 hh2)
  | ((with_reducible refine' g_tupL ?h1 ?h2 ?_); (case h1 => assumption); (case h2 => walk_at "sq"); intro p H2 hh2)
  | ((with_reducible refine' g_set ?h1 ?h2 ?h3 ?_); (case h1 => assumption); (case h2 => walk_at "pk"); (case h3 => first | rfl | assumption | exact Evl.ixN_nat (by first | omega | (simp only [List.length_cons, List.length_nil]; omega))); intro H2 hh2)
  | ((with_reducible refine' g_kbm ?h1 ?h2 ?_); (case h1 => assumption); (case h2 => walk_at "mem"))
  | ((with_reducible refine' g_kbm0 ?h1 ?h2 ?_); (case h1 => assumption); (case h2 => walk_at "mem"))
  | ((with_reducible refine' g_app ?h1 ?h2 ?h3 ?_); (case h1 => assumption); (case h2 => walk_at "pk"); (case h3 => walk_at "sz"); intro H2 hh2)
  | ((with_reducible refine' g_kapp ?h1 ?h2 ?h3 ?_); (case h1 => assumption); (case h2 => walk_at "pk"); (case h3 => walk_at "sz"); intro H2 hh2)
  | ((with_reducible refine' g_fld ?h1 ?h2 ?h3 ?h4 ?h5 ?_); (case h1 => assumption); (case h2 => walk_at "mem"); (case h3 => assumption); (case h4 => assumption); (case h5 => rfl))
  | ((with_reducible refine' g_sfld ?h1 ?h2 ?h3 ?h4 ?h5 ?_); (case h1 => assumption); (case h2 => walk_at "pk"); (case h3 => assumption); (case h4 => assumption); (case h5 => decide); intro H2 hh2)
  | ((with_reducible refine' g_meth ?h1 ?h2 ?h3 ?_); (case h1 => assumption); (case h2 => walk_at "mem"); (case h3 => rfl))
  | ((with_reducible refine' g_prop ?h1 ?h2 ?_); (case h1 => assumption); (case h2 => walk_at "mem"))
  | ((with_reducible refine' g_make ?h1 ?_); (case h1 => assumption); intro x H2 hh2)
  | ((with_reducible refine' g_cat ?h1 ?h2 ?h3 ?h4 ?_); (case h1 => assumption); (case h2 => walk_at "mem"); (case h3 => walk_at "mem"); (case h4 => walk_at "sz"); intro p H2 hh2)
  | ((with_reducible refine' g_inT ?h1 ?h2 ?h3 ?h4 ?h5 ?_); (case h1 => assumption); (case h2 => walk_at "mem"); (case h3 => rfl); (case h4 => rfl); (case h5 => rfl)))
local macro_rules | `(tactic| walk_at "gs") => `(tactic| repeat first | walk_at "s1" | walk_at "g1")
local macro_rules | `(tactic| walk_at "ite") => `(tactic| first
  | ((with_reducible refine' w_iteT ?h1 ?_); (case h1 => omega))
  | ((with_reducible refine' w_iteF ?h1 ?_); (case h1 => omega))
  | (with_reducible refine w_ite ?_ ?_ <;> intro hq)
  | ((with_reducible refine' w_iteNT ?h1 ?_); (case h1 => omega))
  | ((with_reducible refine' w_iteNF ?h1 ?_); (case h1 => omega))
  | (with_reducible refine w_iteN ?_ ?_ <;> intro hq))
local macro_rules | `(tactic| walk_at "go") => `(tactic| repeat' first | walk_at "s1" | walk_at "g1" | walk_at "ite")
local macro_rules | `(tactic| walk_at "g1") => `(tactic| first
  | ((with_reducible refine' g_take1 ?h1 ?h2 ?h3 ?h4 ?_); (case h1 => assumption); (case h2 => walk_at "spl"); (case h3 => omega); (case h4 => omega); intro k H2 hk1 hh2)
  | ((with_reducible refine' g_take ?h1 ?h2 ?h4 ?_); (case h1 => assumption); (case h2 => walk_at "spl"); (case h4 => omega); intro k H2 hk1 hh2)
  | ((with_reducible refine' g_betweenN ?h1 ?h2 ?h5 ?h3 ?h4 ?_); (case h1 => assumption); (case h2 => walk_at "spl"); (case h5 => omega); (case h3 => omega); (case h4 => omega); intro k H2 hk1 hk2 hh2)
  | ((with_reducible refine' g_between ?h1 ?h2 ?h3 ?h4 ?_); (case h1 => assumption); (case h2 => walk_at "spl"); (case h3 => omega); (case h4 => omega); intro k H2 hk1 hk2 hh2)
  | ((with_reducible refine' g_size ?h1 ?h2 ?h3 ?h4 ?_); (case h1 => assumption); (case h2 => walk_at "spl"); (case h3 => omega); (case h4 => omega); intro k H2 hk1 hh2)
  | ((with_reducible refine' g_word ?h1 ?h2 ?_); (case h1 => assumption); (case h2 => walk_at "spl"); intro k H2 hk1 hh2))
section
variable {P : Program} {w : World} {K : PySem.W.Frag} {mg : Str → Option Value} {base : Heap} {aREG aOPS : Addr}
section
variable {C CS tP : Addr}
def sp_table (CS : Addr) : Sp := fun vs H Q _ => ∃ (s F ta : Addr) (Tt : Tb) (L : List Cell), vs = [.ref s] ∧ Tt.length ≤ 16 ∧ spI CS s F ta false ∈ L ∧ lstC ta (tbV Tt) ∈ L ∧ Hd H L ∧ ∀ p H', Hd H' (lstC p (tbV Tt) :: L) → Q (.ref p) H'
theorem c_table (T : Txt K mg aREG aOPS) (L : SpcC K CS) (d : MetAt K CS "table" "Space.table" s_Space__table) (c_Space__ask_unclosed : C8.Met P w K mg base 1 CS "_ask_unclosed" (sp_askU CS) []) : C8.Met P w K mg base 2 CS "table" (sp_table CS) [] := by
  refine mkM d sc_Space__table (fun _ _ _ _ _ _ us hl => match us, hl with | [_], _ => rfl) (fun vs H Q E h => ?_) (fun f cdv A outer s H vs Q E hr h => ?_)
  · obtain ⟨s, F, ta, Tt, L, rfl, _⟩ := h
    rfl
  · obtain ⟨s, F, ta, Tt, M, rfl, t16, m1, m2, hh, q⟩ := h
    refine ⟨_, (pss_cons (ps_expr (C8.pe_mt0 c_Space__ask_unclosed hr (by first | decide | omega) (pv 0)))
  (pss_one (ps_ret (pe_callTy Wk.b_list (by rfl) T.b_list (by decide +kernel) (pa_cons (pe_fld (pv 0) rfl) pa_nil))))), ?_⟩
    have hc := L.cl
    have n2 := L.n2
    have hl : (tbV Tt).length = Tt.length := List.length_map ..
    walk_at "gs"
    refine ⟨s, F, ta, _, rfl, m1, hh, ?_⟩
    walk_at "gs"
    rename_i p H2 h2
    exact q p H2 h2
theorem c_get (T : Txt K mg aREG aOPS) (L : SpcC K CS) (d : MetAt K CS "__getitem__" "Space.__getitem__" s_Space____getitem__) (c_Space__word_at : C8.Met P w K mg base 6 CS "_word_at" (sp_wordat C CS) []) : C8.Met P w K mg base 7 CS "__getitem__" (sp_wordat C CS) [] := by
  refine mkM d sc_Space____getitem__ (fun _ _ _ _ _ _ us hl => match us, hl with | [_, _], _ => rfl) (fun vs H Q E h => ?_) (fun f cdv A_ outer s H vs Q E hr h => ?_)
  · obtain ⟨s, A, ta, S, ps, Tt, a, R, rfl, _⟩ := h
    rfl
  · obtain ⟨s, A, ta, S, ps, Tt, a, R, rfl, k, t, ha, hh, q⟩ := h
    refine ⟨_, (pss_one (ps_ret (C8.pe_mt c_Space__word_at hr (by first | decide | omega) (pv 0) (pa_cons (pv 1) pa_nil)))), ?_⟩
    walk_at "gs"
    refine ⟨s, A, ta, S, ps, Tt, a, R, rfl, k, t, ha, hh, fun H' h' => ?_⟩
    walk_at "gs"
    exact q H' h'
theorem c_set (T : Txt K mg aREG aOPS) (L : SpcC K CS) (d : MetAt K CS "__setitem__" "Space.__setitem__" s_Space____setitem__) (c_Space_write : C8.Met P w K mg base 9 CS "write" (sp_write C CS tP) []) : C8.Met P w K mg base 10 CS "__setitem__" (sp_write C CS tP) [] := by
  refine mkM d sc_Space____setitem__ (fun _ _ _ _ _ _ us hl => match us, hl with | [_, _, _], _ => rfl) (fun vs H Q E h => ?_) (fun f cdv A_ outer s H vs Q E hr h => ?_)
  · obtain ⟨s, A, ta, S, ps, Tt, a, x, R, rfl, _⟩ := h
    rfl
  · obtain ⟨s, A, ta, S, ps, Tt, a, x, R, rfl, k, t, ha, hx0, hx1, rm, hh, q⟩ := h
    refine ⟨_, (pss_one (ps_expr (C8.pe_mt c_Space_write hr (by first | decide | omega) (pv 0) (pa_cons (pv 1) (pa_cons (pv 2) pa_nil))))), ?_⟩
    walk_at "gs"
    refine ⟨s, A, ta, S, ps, Tt, a, x, R, rfl, k, t, ha, hx0, hx1, rm, hh, fun ps' H' k' h' => ?_⟩
    walk_at "gs"
    exact q ps' H' k' h'
end
end
end K05
set_option Elab.async false
set_option linter.all false
set_option maxRecDepth 100000
set_option maxHeartbeats 4000000
namespace K05
open PySem PySem.Spec PyProof.Rows L2 Wk
local macro_rules | `(tactic| walk_at "u1") => `(tactic| fail "no more")
local macro_rules | `(tactic| walk_at "pos") => `(tactic| first | assumption | omega | decide | (simp only [Int.ofNat_eq_natCast] at *; omega))
local macro_rules | `(tactic| walk_at "sz") => `(tactic| first
  | (simp only [List.length_cons, List.length_nil]; decide)
  | exact Evl.sz_of (by omega)
  | exact Evl.sz_lt (by omega)
  | exact Evl.sz_of (by simp only [List.length_map, List.length_append, List.length_cons, List.length_nil, List.length_replicate]; omega)
  | exact Evl.sz_lt (by simp only [List.length_map, List.length_append, List.length_cons, List.length_nil, List.length_replicate]; omega))
local macro_rules | `(tactic| walk_at "cond") => `(tactic| first
  | exact Or.inr ⟨by decide, by decide⟩
  | (show (0 : Int) < _; first | decide | assumption | omega)
  | exact Or.inl ⟨by omega, by omega⟩
  | exact Or.inr ⟨by omega, by omega⟩
  | exact ⟨by decide, by decide, by decide⟩
  | exact log2_lt (by omega) (by omega)
  | exact ⟨by omega, by omega⟩)
local macro_rules | `(tactic| walk_at "ty") => `(tactic| first
  | exact ty_int | exact ty_bl | exact ty_str | exact ty_non
  | exact ty_L (by assumption) | exact ty_T (by assumption)
  | exact ty_L (SqL.of (by assumption)) | exact ty_T (SqT.of (by assumption)))
local macro_rules | `(tactic| walk_at "kit") => `(tactic| first
  | exact k_ii | exact k_ib | exact k_is | exact k_il | exact k_it
  | exact k_bb | exact k_bi | exact k_bs | exact k_bl | exact k_bt
  | exact k_ss | exact k_sb | exact k_si | exact k_sl | exact k_st
  | exact k_ll | exact k_lb | exact k_li | exact k_ls | exact k_lt
  | exact k_tt | exact k_tb | exact k_ti | exact k_ts | exact k_tl
  | exact k_nn | exact k_ni | exact k_ns | exact k_nl | exact k_nt)
local macro_rules | `(tactic| walk_at "s1") => `(tactic| first
  | with_reducible refine w_seq ?_
  | with_reducible refine w_set ?_
  | with_reducible refine w_op ?_
  | ((with_reducible refine' w_var ?h1 ?_); (case h1 => rfl))
  | with_reducible refine w_c ?_
  | with_reducible refine w_cb ?_
  | with_reducible refine w_cons ?_
  | with_reducible refine w_nil ?_
  | with_reducible refine w_I0 ?_
  | ((with_reducible refine' w_I ?c1 ?_); case c1 => walk_at "cond")
  | with_reducible refine w_ret ?_
  | with_reducible refine w_next ?_
  | with_reducible refine w_ifS ?_
  | with_reducible refine w_test ?_
  | with_reducible refine w_tB ?_
  | with_reducible refine w_k ?_
  | with_reducible refine w_eqI ?_
  | with_reducible refine w_neI ?_
  | with_reducible refine w_eqS ?_
  | with_reducible refine w_neS ?_
  | with_reducible refine w_and ?_
  | with_reducible refine w_or ?_
  | with_reducible refine w_not ?_
  | with_reducible refine w_andV ?_
  | with_reducible refine w_orV ?_
  | with_reducible refine w_notV ?_
  | with_reducible refine w_ifE ?_
  | with_reducible refine w_true ?_
  | with_reducible refine w_false ?_
  | with_reducible refine w_ntrue ?_
  | with_reducible refine w_nfalse ?_
  | with_reducible refine w_call ?_
  | with_reducible refine c_int ?_
  | with_reducible refine c_abs ?_
  | with_reducible refine c_max ?_
  | with_reducible refine c_min ?_
  | with_reducible refine w_drop ?_
  | with_reducible refine w_sfld ?_
  | with_reducible refine w_meth ?_
  | with_reducible refine w_make ?_
  | with_reducible refine w_prop ?_
  | with_reducible refine w_callK ?_
  | with_reducible refine w_callN ?_
  | with_reducible refine w_star ?_
  | with_reducible refine w_gcons ?_
  | with_reducible refine w_gname ?_
  | with_reducible refine w_gnil ?_
  | with_reducible refine w_retN ?_
  | with_reducible refine w_tup ?_
  | with_reducible refine w_lst ?_
  | with_reducible refine w_fld ?_
  | with_reducible refine w_bm ?_
  | with_reducible refine w_bm0 ?_
  | with_reducible refine w_forL ?_
  | with_reducible refine w_forT ?_
  | with_reducible refine w_forS ?_
  | with_reducible refine w_forR ?_
  | with_reducible refine w_lcR ?_
  | with_reducible refine w_lcL ?_
  | with_reducible refine w_lcT ?_
  | with_reducible refine w_isN ?_
  | with_reducible refine w_notN ?_
  | with_reducible refine w_asg ?_
  | with_reducible refine w_gsub ?_
  | ((with_reducible refine' w_aug ?h1 ?_); (case h1 => rfl))
  | with_reducible refine w_augS ?_
  | with_reducible refine w_ipI ?_
  | with_reducible refine w_un ?_
  | with_reducible refine w_U ?_
  | ((with_reducible refine' w_iteF ?f1 ?_); case f1 => (first | (intro h; cases h; done) | decide))
  | ((with_reducible refine' w_iteT ?f1 ?_); case f1 => rfl)
  | ((with_reducible refine' w_iteNF ?f1 ?_); case f1 => rfl)
  | ((with_reducible refine' w_iteNT ?f1 ?_); case f1 => (first | (intro h; cases h; done) | decide))
  | ((with_reducible refine' c_isi ?t1 ?k1 ?_); (case t1 => walk_at "ty"); (case k1 => walk_at "kit"))
  | ((with_reducible refine' w_eq ?e1 ?_); case e1 => rfl)
  | ((with_reducible refine' w_ne ?e1 ?_); case e1 => rfl)
  | walk_at "u1")
local macro_rules | `(tactic| walk_at "s") => `(tactic| repeat walk_at "s1")
local macro_rules | `(tactic| walk_at "mem") => `(tactic| first | with_reducible exact List.mem_cons_self .. | ((with_reducible refine' List.mem_cons_of_mem _ ?q); (case q => walk_at "mem")) | assumption | ((with_reducible refine' List.mem_append_right _ ?q); (case q => walk_at "mem")) | (exact List.mem_append_left _ (by assumption)))
local macro_rules | `(tactic| walk_at "pk") => `(tactic| first | with_reducible exact Pk.here | ((with_reducible refine' Pk.there ?q); (case q => walk_at "pk")) | ((with_reducible refine' Pk.app ?q); (case q => walk_at "pk")))
local macro_rules | `(tactic| walk_at "pkb") => `(tactic| first | with_reducible exact PkB.here | ((with_reducible refine' PkB.there ?q); (case q => walk_at "pkb")) | ((with_reducible refine' PkB.app ?q); (case q => walk_at "pkb")))
local macro_rules | `(tactic| walk_at "spl") => `(tactic| first | with_reducible exact Spl.nil | ((with_reducible refine' Spl.cons ?h ?t); (case h => walk_at "pk"); (case t => walk_at "spl")) | ((with_reducible refine' Spl.blk ?h ?t); (case h => walk_at "pkb"); (case t => walk_at "spl")))
local macro_rules | `(tactic| walk_at "sbx") => `(tactic| first | with_reducible exact Sb.refl | with_reducible exact Sb.nil | with_reducible exact Sb.left | ((with_reducible refine' Sb.cons ?h ?t); (case h => walk_at "pk"); (case t => walk_at "sbx")) | ((with_reducible refine' Sb.blk ?h ?t); (case h => walk_at "pkb"); (case t => walk_at "sbx")) | ((with_reducible refine' Sb.drop ?q); (case q => walk_at "sbx")) | ((with_reducible refine' Sb.right ?q); (case q => walk_at "sbx")))
local macro_rules | `(tactic| walk_at "hd") => `(tactic| first | assumption | exact Hd.sb (by assumption) (by walk_at "sbx"))
local macro_rules | `(tactic| walk_at "sq") => `(tactic| first
  | assumption
  | exact Hd.sqL (by assumption) (by walk_at "mem")
  | exact Hd.sqT (by assumption) (by walk_at "mem")
  | exact Hd.sqF (by assumption) (by walk_at "mem")
  | (refine .inl ?_; walk_at "sq")
  | (refine .inr ?_; walk_at "sq"))
local macro_rules | `(tactic| walk_at "at") => `(tactic| first | rfl | assumption | exact atI_nat (by assumption))
local macro_rules | `(tactic| walk_at "dn1") => `(tactic| first
  | exact Dn.int | exact Dn.str | exact Dn.non | exact Dn.bl | assumption
  | ((refine' Dn.tp ?a1 ?m1 ?l1 ?p1); (case a1 => assumption); (case m1 => walk_at "mem"); (case l1 => (simp only [List.length_cons, List.length_nil]; omega)); (case p1 => walk_at "dns"))
  | ((refine' Dn.lt ?a1 ?m1 ?l1 ?p1); (case a1 => assumption); (case m1 => walk_at "mem"); (case l1 => (simp only [List.length_cons, List.length_nil]; omega)); (case p1 => walk_at "dns")))
local macro_rules | `(tactic| walk_at "dns") => `(tactic| first | exact Paired.nil | exact Dn.ints | ((refine' Paired.cons ?a1 ?b1); (case a1 => walk_at "dn1"); (case b1 => walk_at "dns")))
local macro_rules | `(tactic| walk_at "g1") => `(tactic| first
  | ((with_reducible refine' g_ixI ?h1 ?h2 ?h3 ?_); (case h1 => assumption); (case h2 => walk_at "mem"); (case h3 => omega); intro z hz)
  | ((with_reducible refine' g_ixIT ?h1 ?h2 ?h3 ?_); (case h1 => assumption); (case h2 => walk_at "mem"); (case h3 => omega); intro z hz)
  | ((with_reducible refine' g_setI ?h1 ?h2 ?h3 ?_); (case h1 => assumption); (case h2 => walk_at "pk"); (case h3 => omega); intro H2 hh2)
  | ((with_reducible refine' w_ixL ?h1 ?h2 ?_); (case h1 => walk_at "sq"); (case h2 => walk_at "at"))
  | ((with_reducible refine' w_ixT ?h1 ?h2 ?_); (case h1 => walk_at "sq"); (case h2 => walk_at "at"))
  | ((with_reducible refine' w_ixAny ?h1 ?h2 ?_); (case h1 => walk_at "sq"); (case h2 => walk_at "at"))
  | ((with_reducible refine' c_lenA ?h1 ?_); (case h1 => walk_at "sq"))
  | ((with_reducible refine' c_isi ?t1 ?k1 ?_); (case t1 => first | exact ty_T (by walk_at "sq") | exact ty_L (by walk_at "sq")); (case k1 => walk_at "kit"))
  | ((with_reducible refine' g_lst ?h1 ?h2 ?_); (case h1 => assumption); (case h2 => walk_at "sz"); intro p H2 hh2)
  | ((with_reducible refine' g_tup ?h1 ?h2 ?_); (case h1 => assumption); (case h2 => walk_at "sz"); intro p H2 hh2)
  | ((with_reducible refine' g_dict ?h1 ?_); (case h1 => assumption); intro p H2 hh2)
  | ((with_reducible refine' g_listL ?h1 ?h2 ?_); (case h1 => assumption); (case h2 => walk_at "sq"); intro p H2 hh2)
  | ((with_reducible refine' g_listT ?h1 ?h2 ?_); (case h1 => assumption); (case h2 => walk_at "sq"); intro p H2 hh2)
  | ((with_reducible refine' g_tupL ?h1 ?h2 ?_); (case h1 => assumption); (case h2 => walk_at "sq"); intro p H2 hh2)
  | ((with_reducible refine' g_set ?h1 ?h2 ?h3 ?_); (case h1 => assumption); (case h2 => walk_at "pk"); (case h3 => first | rfl | assumption | exact Evl.ixN_nat (by first | omega | (simp only [List.length_cons, List.length_nil]; omega))); intro H2 hh2)
  | ((with_reducible refine' g_kbm ?h1 ?h2 ?_); (case h1 => assumption); (case h2 => walk_at "mem"))
  | ((with_reducible refine' g_kbm0 ?h1 ?h2 ?_); (case h1 => assumption); (case h2 => walk_at "mem"))
  | ((with_reducible refine' g_app ?h1 ?h2 ?h3 ?_); (case h1 => assumption); (case h2 => walk_at "pk"); (case h3 => walk_at "sz"); intro H2 hh2)
  | ((with_reducible refine' g_kapp ?h1 ?h2 ?h3 ?_); (case h1 => assumption); (case h2 => walk_at "pk"); (case h3 => walk_at "sz"); intro H2 hh2)
  | ((with_reducible refine' g_fld ?h1 ?h2 ?h3 ?h4 ?h5 ?_); (case h1 => assumption); (case h2 => walk_at "mem"); (case h3 => assumption); (case h4 => assumption); (case h5 => rfl))
  | ((with_reducible refine' g_sfld ?h1 ?h2 ?h3 ?h4 ?h5 ?_); (case h1 => assumption); (case h2 => walk_at "pk"); (case h3 => assumption); (case h4 => assumption); (case h5 => decide); intro H2 hh2)
  | ((with_reducible refine' g_meth ?h1 ?h2 ?h3 ?_); (case h1 => assumption); (case h2 => walk_at "mem"); (case h3 => rfl))
  | ((with_reducible refine' g_prop ?h1 ?h2 ?_); (case h1 => assumption); (case h2 => walk_at "mem"))
  | ((with_reducible refine' g_make ?h1 ?_); (case h1 => assumption); intro x H2 hh2)
  | ((with_reducible refine' g_cat ?h1 ?h2 ?h3 ?h4 ?_); (case h1 => assumption); (case h2 => walk_at "mem"); (case h3 => walk_at "mem"); (case h4 => walk_at "sz"); intro p H2 hh2)
  | ((with_reducible refine' g_inT ?h1 ?h2 ?h3 ?h4 ?h5 ?_); (case h1 => assumption); (case h2 => walk_at "mem"); (case h3 => rfl); (case h4 => rfl); (case h5 => rfl)))
local macro_rules | `(tactic| walk_at "gs") => `(tactic| repeat first | walk_at "s1" | walk_at "g1")
local macro_rules | `(tactic| walk_at "ite") => `(tactic| first
  | ((with_reducible refine' w_iteT ?h1 ?_); (case h1 => omega))
  | ((with_reducible refine' w_iteF ?h1 ?_); (case h1 => omega))
  | (with_reducible refine w_ite ?_ ?_ <;> intro hq)
  | ((with_reducible refine' w_iteNT ?h1 ?_); (case h1 => omega))
  | ((with_reducible refine' w_iteNF ?h1 ?_); (case h1 => omega))
  | (with_reducible refine w_iteN ?_ ?_ <;> intro hq))
local macro_rules | `(tactic| walk_at "go") => `(tactic| repeat' first | walk_at "s1" | walk_at "g1" | walk_at "ite")
local macro_rules | `(tactic| walk_at "g1") => `(tactic| first
  | ((with_reducible refine' g_take1 ?h1 ?h2 ?h3 ?h4 ?_); (case h1 => assumption); (case h2 => walk_at "spl"); (case h3 => omega); (case h4 => omega); intro k H2 hk1 hh2)
  | ((with_reducible refine' g_take ?h1 ?h2 ?h4 ?_); (case h1 => assumption); (case h2 => walk_at "spl"); (case h4 => omega); intro k H2 hk1 hh2)
  | ((with_reducible refine' g_betweenN ?h1 ?h2 ?h5 ?h3 ?h4 ?_); (case h1 => assumption); (case h2 => walk_at "spl"); (case h5 => omega); (case h3 => omega); (case h4 => omega); intro k H2 hk1 hk2 hh2)
  | ((with_reducible refine' g_between ?h1 ?h2 ?h3 ?h4 ?_); (case h1 => assumption); (case h2 => walk_at "spl"); (case h3 => omega); (case h4 => omega); intro k H2 hk1 hk2 hh2)
  | ((with_reducible refine' g_size ?h1 ?h2 ?h3 ?h4 ?_); (case h1 => assumption); (case h2 => walk_at "spl"); (case h3 => omega); (case h4 => omega); intro k H2 hk1 hh2)
  | ((with_reducible refine' g_word ?h1 ?h2 ?_); (case h1 => assumption); (case h2 => walk_at "spl"); intro k H2 hk1 hh2))
section
variable {P : Program} {w : World} {K : PySem.W.Frag} {mg : Str → Option Value} {base : Heap} {aREG aOPS : Addr}
/-! ### one world: frames, the law's own words, spaces with the law's own tables -/
structure SpQ where
  (s ta ra la : Addr)
  T : Tb
def raV (r : SpQ) : V := .ref r.ra
structure Wq where
  A : FA
  S : St1
  ps : List Pg
  wa : Addr
  ws : List Pg
  sp : List SpQ
section
variable {C CS tP : Addr}
def spQs (CS F : Addr) : List SpQ → List Cell
  | [] => []
  | r :: l => spI CS r.s F r.ta false :: lstC r.ta (tbV r.T) :: lstC r.ra [.ref r.s, .ref r.la] :: lstC r.la (tbV r.T) :: spQs CS F l
theorem spQs_app {F : Addr} : ∀ {l m : List SpQ}, spQs CS F (l ++ m) = spQs CS F l ++ spQs CS F m
  | [], _ => rfl
  | r :: l, m => by
    show _ :: _ :: _ :: _ :: spQs CS F (l ++ m) = _
    rw [spQs_app (l := l) (m := m)]; rfl
theorem spQs_in {F : Addr} : ∀ {l : List SpQ} {r : SpQ}, r ∈ l → spI CS r.s F r.ta false ∈ spQs CS F l ∧ lstC r.ta (tbV r.T) ∈ spQs CS F l ∧ lstC r.ra [.ref r.s, .ref r.la] ∈ spQs CS F l ∧ lstC r.la (tbV r.T) ∈ spQs CS F l
  | q :: l, r, h => by
    rcases List.mem_cons.mp h with e | h
    · subst e
      exact ⟨.head _, .tail _ (.head _), .tail _ (.tail _ (.head _)), .tail _ (.tail _ (.tail _ (.head _)))⟩
    · obtain ⟨a, b, c, d⟩ := spQs_in (F := F) h
      have up : ∀ {x : Cell}, x ∈ spQs CS F l → x ∈ spQs CS F (q :: l) := fun h => .tail _ (.tail _ (.tail _ (.tail _ h)))
      exact ⟨up a, up b, up c, up d⟩
def wdB (wa : Addr) (ws : List Pg) : List Cell := lstC wa (ws.map pgV) :: pgC ws
def wQ (C CS : Addr) (w : Wq) : List Cell := frB C w.A w.S w.ps ++ (wdB w.wa w.ws ++ spQs CS w.A.F w.sp)
structure Wq.ok (w : Wq) : Prop where
  k : WOk w.S w.ps (w.sp.map SpQ.T)
  p : PgOk w.S w.ws
/-- the law's rows and tables stand in L -/
def RowQ (L : List Cell) (r : SpQ) : Prop := lstC r.ra [.ref r.s, .ref r.la] ∈ L ∧ lstC r.la (tbV r.T) ∈ L
theorem wQ_row {w : Wq} {r : SpQ} {R : List Cell} (h : r ∈ w.sp) : RowQ (wQ C CS w ++ R) r := by
  obtain ⟨_, _, a, b⟩ := spQs_in (CS := CS) (F := w.A.F) h
  unfold wQ
  exact ⟨List.mem_append_left _ (List.mem_append_right _ (List.mem_append_right _ a)), List.mem_append_left _ (List.mem_append_right _ (List.mem_append_right _ b))⟩
theorem wQ_sp {w : Wq} {r : SpQ} {R : List Cell} (h : r ∈ w.sp) : spI CS r.s w.A.F r.ta false ∈ wQ C CS w ++ R ∧ lstC r.ta (tbV r.T) ∈ wQ C CS w ++ R := by
  obtain ⟨a, b, _, _⟩ := spQs_in (CS := CS) (F := w.A.F) h
  unfold wQ
  exact ⟨List.mem_append_left _ (List.mem_append_right _ (List.mem_append_right _ a)), List.mem_append_left _ (List.mem_append_right _ (List.mem_append_right _ b))⟩
theorem wQ_fr {w : Wq} {R : List Cell} : frI w.A.F C w.A.hl w.A.pl ∈ wQ C CS w ++ R ∧ lstC w.A.hl ((hsI w.S).map V.int) ∈ wQ C CS w ++ R := by
  unfold wQ frB
  exact ⟨.head _, .tail _ (.head _)⟩
theorem wQ_wd {w : Wq} {R : List Cell} : lstC w.wa (w.ws.map pgV) ∈ wQ C CS w ++ R ∧ ∀ {f : Nat} {a : Addr} {ws : List Int}, w.ws[f]? = some (some (a, ws)) → lstC a (ws.map V.int) ∈ wQ C CS w ++ R := by
  unfold wQ wdB
  exact ⟨List.mem_append_left _ (List.mem_append_right _ (.head _)), fun h => List.mem_append_left _ (List.mem_append_right _ (.tail _ (List.mem_append_left _ (pgC_mem h))))⟩
theorem RowQ.up {L M : List Cell} {r : SpQ} (h : RowQ L r) (s : ∀ x ∈ L, x ∈ M) : RowQ M r := ⟨s _ h.1, s _ h.2⟩
/-! ### counting -/
def cntE (n : Nat) (E : Tb) : List Int := (List.range n).map fun g => (E.count (some g) : Int)
theorem cntE_len {n : Nat} {E : Tb} : (cntE n E).length = n := by unfold cntE; rw [List.length_map, List.length_range]
theorem cntE_at {n g : Nat} {E : Tb} (h : g < n) : (cntE n E)[g]? = some (E.count (some g) : Int) := by
  unfold cntE
  rw [List.getElem?_map, List.getElem?_range h]; rfl
theorem cntE_nil {n : Nat} : cntE n [] = List.replicate n 0 := by
  refine List.ext_getElem? fun j => ?_
  by_cases h : j < n
  · rw [cntE_at h, List.getElem?_replicate_of_lt h]; rfl
  · rw [List.getElem?_eq_none (by rw [cntE_len]; omega), List.getElem?_eq_none (by rw [List.length_replicate]; omega)]
theorem cntE_non {n : Nat} {E : Tb} : cntE n (E ++ [none]) = cntE n E := by
  unfold cntE
  refine List.map_congr_left fun g _ => ?_
  rw [List.count_append, List.count_cons_of_ne (by simp)]; rfl
theorem cntE_some {n f : Nat} {E : Tb} (hf : f < n) : cntE n (E ++ [some f]) = (cntE n E).set f ((E.count (some f) : Int) + 1) := by
  refine List.ext_getElem? fun j => ?_
  by_cases h : j < n
  · rw [cntE_at h, List.count_append]
    by_cases e : f = j
    · subst e
      rw [List.getElem?_set_self (by rw [cntE_len]; exact hf), List.count_cons_self]; rfl
    · rw [List.getElem?_set_ne e, cntE_at h, List.count_cons_of_ne (by simpa using e)]; rfl
  · rw [List.getElem?_eq_none (by rw [cntE_len]; omega), List.getElem?_eq_none (by rw [List.length_set, cntE_len]; omega)]
theorem cntE_hs {S : St1} {E : Tb} (h : ∀ g, g < S.length → hat S g = E.count (some g)) : cntE S.length E = hsI S := by
  refine List.ext_getElem? fun j => ?_
  by_cases hj : j < S.length
  · rw [cntE_at hj, hsI_at hj, h j hj]
  · rw [List.getElem?_eq_none (by rw [cntE_len]; omega), List.getElem?_eq_none (by rw [hsI_len]; omega)]
theorem tbs_at {T : Tb} {i : Nat} {y : V} (h : (tbV T)[i]? = some y) : i < T.length ∧ y = tV (T.getD i none) ∧ T.take (i + 1) = T.take i ++ [T.getD i none] := by
  have hi : i < T.length := by have := (List.getElem?_eq_some_iff.mp h).1; rw [List.length_map] at this; exact this
  rw [tb_at hi] at h
  exact ⟨hi, (Option.some.inj h).symm, tk_succ (x := T.getD i none) (by rw [List.getD_eq_getElem?_getD, List.getElem?_eq_getElem hi]; rfl)⟩
def sp_lholds : Sp := fun vs H Q _ => ∃ (sl : Addr) (sp : List SpQ) (S : St1) (L : List Cell), vs = [.ref sl, .int S.length] ∧ S.length ≤ 96 ∧ Hd H L ∧ lstC sl (sp.map raV) ∈ L ∧ (∀ r ∈ sp, RowQ L r ∧ r.T.length ≤ 16) ∧ (∀ g, g < S.length → hat S g = (sp.map SpQ.T).flatten.count (some g)) ∧ (∀ g, some g ∈ (sp.map SpQ.T).flatten → g < S.length) ∧
  ∀ p H', Hd H' (lstC p ((hsI S).map V.int) :: L) → Q (.ref p) H'
theorem c_lholds (T : Txt K mg aREG aOPS) (d : DefAt K mg "_law_holds" s__law_holds) : C8.Cal P w K mg base 1 "_law_holds" sp_lholds [] := by
  refine mk d sc__law_holds (fun _ _ _ _ _ _ us hl => match us, hl with | [_, _], _ => rfl) (fun vs H Q E h => ?_) (fun f cdv A_ outer s H vs Q E hr h => ?_)
  · obtain ⟨sl, sp, S, L, rfl, _⟩ := h
    rfl
  · obtain ⟨sl, sp, S, M, rfl, h96, hh, msl, hrow, hc, he, q⟩ := h
    refine ⟨_, (pss_cons (ps_set (i := 2) sc__law_holds.nd rfl (Or.inl rfl) (pe_op op_rep (pe_lst (pa_cons pe_int pa_nil)) (pv 1)))
  (pss_cons (ps_for PassesOwn.never rfl (pi_list (pv 0)) (pg_name (i := 3) sc__law_holds.nd rfl (Or.inl rfl))
    (pss_one (ps_for PassesOwn.never rfl (pi_list (pe_ix ix_list (pv 3) pe_int (fun _ _ => rfl))) (pg_name (i := 4) sc__law_holds.nd rfl (Or.inl rfl))
        (pss_one (ps_if (pt_cmpR op_notN1 (pv 4) pe_non (nomark _))
            (pss_one (ps_augS (pv 2) (pv 4) Wk.get_list pe_int ip_add set_list))
            pss_nil)))))
  (pss_one (ps_ret (pv 2))))), ?_⟩
    walk_at "gs"
    rename_i p0 H1 h1
    refine g_rep h1 (by walk_at "mem") (by omega) (by omega) (by rw [Int.toNat_natCast]; exact Nat.le_trans (show 1 * S.length ≤ 96 by omega) (by decide)) fun p H2 h2 => ?_
    rw [Int.toNat_natCast, rep_ints] at h2
    replace h2 : Hd H2 (lstC p ((cntE S.length ((sp.take 0).map SpQ.T).flatten).map V.int) :: M) := by
      rw [show ((sp.take 0).map SpQ.T).flatten = [] from rfl, cntE_nil]
      exact Hd.sb h2 (by walk_at "sbx")
    clear h1 hh
    walk_at "gs"
    refine l_list (xs := sp.map raV) (h2.sqL (.tail _ msl)) (fun i σ H => ∃ (x3 x4 : Option V), σ = [some (.ref sl), some (.int S.length), some (.ref p), x3, x4] ∧ Hd H (lstC p ((cntE S.length ((sp.take i).map SpQ.T).flatten).map V.int) :: M)) ⟨_, _, rfl, h2⟩ (fun i σ H _ ⟨_, _, _, h⟩ => h.sqL (.tail _ msl)) ?_ ?_
    · clear h2
      rintro i y σ H3 hy ⟨x3, x4, rfl, h3⟩
      obtain ⟨r, hr0, rfl⟩ : ∃ z, sp[i]? = some z ∧ raV z = y := by simpa [List.getElem?_map] using hy
      have hm := List.mem_of_getElem? hr0
      obtain ⟨⟨m1, m2⟩, t16⟩ := hrow r hm
      have et : ((sp.take (i + 1)).map SpQ.T).flatten = ((sp.take i).map SpQ.T).flatten ++ r.T := by
        rw [tk_succ hr0, List.map_append, List.flatten_append]; simp
      generalize ((sp.take i).map SpQ.T).flatten = E at *
      rw [et]
      have hin : ∀ f, some f ∈ r.T → f < S.length := fun f hf => he f (List.mem_flatten.mpr ⟨r.T, List.mem_map_of_mem hm, hf⟩)
      dsimp only [List.set]
      rw [show raV r = V.ref r.ra from rfl]
      have h4 : Hd H3 (lstC p ((cntE S.length (E ++ r.T.take 0)).map V.int) :: M) := by rw [List.take_zero, List.append_nil]; exact h3
      clear h3
      walk_at "gs"
      refine l_list (xs := tbV r.T) (h4.sqL (.tail _ m2)) (fun j σ H => ∃ (x4 : Option V), σ = [some (.ref sl), some (.int S.length), some (.ref p), some (.ref r.ra), x4] ∧ Hd H (lstC p ((cntE S.length (E ++ r.T.take j)).map V.int) :: M)) ⟨_, rfl, h4⟩ (fun j σ H _ ⟨_, _, h⟩ => h.sqL (.tail _ m2)) ?_ ?_
      · clear h4
        rintro j y σ H5 hj ⟨x5, rfl, h5⟩
        obtain ⟨hjl, rfl, ej⟩ := tbs_at hj
        rw [ej, ← List.append_assoc]
        have hcl := cntE_len (n := S.length) (E := E ++ r.T.take j)
        dsimp only [List.set]
        cases e : r.T.getD j none with
        | none =>
          rw [show tV none = V.non from rfl, cntE_non]
          walk_at "gs"
          exact ⟨_, rfl, h5⟩
        | some fr =>
          have hfr := hin fr (tb_mem e)
          rw [show tV (some fr) = V.int fr from rfl, cntE_some hfr]
          have hat_ := cntE_at (E := E ++ r.T.take j) hfr
          walk_at "gs"
          rename_i z hz H6 h6
          obtain rfl : z = ((E ++ r.T.take j).count (some fr) : Int) := by
            rw [hat_] at hz
            exact (Option.some.inj hz).symm
          exact ⟨_, rfl, h6⟩
      · rintro σ H5 ⟨x5, rfl, h5⟩
        have hl : (tbV r.T).length = r.T.length := List.length_map ..
        rw [hl, List.take_length] at h5
        exact ⟨_, _, rfl, h5⟩
    · rintro σ H3 ⟨x3, x4, rfl, h3⟩
      rw [List.length_map, List.take_length, cntE_hs hc] at h3
      walk_at "gs"
      exact q p H3 h3
end

section
variable {C CS tP : Addr}
def sp_lread : Sp := fun vs H Q _ => ∃ (sl wa : Addr) (sp : List SpQ) (r : SpQ) (who a : Nat) (S : St1) (ws : List Pg) (L : List Cell), vs = [.ref sl, .ref wa, .int who, .int a] ∧ sp[who]? = some r ∧ lstC sl (sp.map raV) ∈ L ∧ RowQ L r ∧ lstC wa (ws.map pgV) ∈ L ∧
  (∀ {f : Nat} {b : Addr} {xs : List Int}, ws[f]? = some (some (b, xs)) → lstC b (xs.map V.int) ∈ L) ∧ PgOk S ws ∧ TOk S r.T ∧ a < 8 * r.T.length ∧ Hd H L ∧ Q (.int (valAt S r.T a)) H
theorem c_lread (T : Txt K mg aREG aOPS) (d : DefAt K mg "_law_read" s__law_read) : C8.Cal P w K mg base 1 "_law_read" sp_lread [] := by
  refine mk d sc__law_read (fun _ _ _ _ _ _ us hl => match us, hl with | [_, _, _, _], _ => rfl) (fun vs H Q E h => ?_) (fun f cdv A_ outer s H vs Q E hr h => ?_)
  · obtain ⟨sl, wa, sp, r, who, a, S, ws, L, rfl, _⟩ := h
    rfl
  · obtain ⟨sl, wa, sp, r, who, a, S, ws, M, rfl, hw, msl, hrow, mwa, mws, ok, t, ha, hh, q⟩ := h
    refine ⟨_, (pss_cons (ps_set (i := 4) sc__law_read.nd rfl (Or.inl rfl) (pe_ix ix_list (pe_ix ix_list (pe_ix ix_list (pv 0) (pv 2) (fun _ _ => rfl)) pe_int (fun _ _ => rfl)) (pe_op op_fdiv (pv 3) pe_int) (fun _ _ => rfl)))
  (pss_cons (ps_if (pt_cmpR op_isN1 (pv 4) pe_non (nomark _))
    (pss_one (ps_ret pe_int))
    pss_nil)
  (pss_one (ps_ret (pe_ix ix_seq (pe_ix ix_list (pv 1) (pv 4) (fun _ _ => rfl)) (pe_op op_sub (pv 3) (pe_op op_mul pe_int (pe_op op_fdiv (pv 3) pe_int))) (fun _ _ => rfl)))))), ?_⟩
    have m1 := hrow.1
    have m2 := hrow.2
    have t16 := t.n16
    walk_at "gs"
    refine w_ixL (hh.sqL msl) (atI_nat (v := .ref r.ra) (by rw [List.getElem?_map, hw]; rfl)) ?_
    walk_at "gs"
    rw [show ((a : Int) / 8) = ((a / 8 : Nat) : Int) by omega]
    refine w_ixL (hh.sqL m2) (atI_nat (tb_at (by omega))) ?_
    walk_at "gs"
    cases e : r.T.getD (a / 8) none with
    | none =>
      have ev : valAt S r.T a = 0 := by
        unfold valAt; rw [e]
        show (List.replicate 8 (0 : Int)).getD (a % 8) 0 = 0
        rw [List.getD_eq_getElem?_getD, List.getElem?_replicate_of_lt (by omega)]; rfl
      rw [show tV none = V.non from rfl]
      walk_at "gs"
      rw [← ev]
      exact q
    | some fr =>
      obtain ⟨hf, h0⟩ := t.e fr (tb_mem e)
      obtain ⟨h8, b, hb⟩ := ok.2 fr hf h0
      have hpv : (ws.map pgV)[fr]? = some (.ref b) := by rw [List.getElem?_map, hb]; rfl
      have mb := mws hb
      rw [show tV (some fr) = V.int fr from rfl]
      walk_at "gs"
      have el : (wat S fr)[a % 8]? = some ((wat S fr).getD (a % 8) 0) := by rw [List.getD_eq_getElem?_getD, List.getElem?_eq_getElem (by omega)]; rfl
      have ev : valAt S r.T a = (wat S fr).getD (a % 8) 0 := by unfold valAt; rw [e]; rfl
      rw [show ((a : Int) - 8 * ((a : Int) / 8)) = ((a % 8 : Nat) : Int) by omega]
      refine .inl ⟨b, (wat S fr).map V.int, _, .int ((wat S fr).getD (a % 8) 0), rfl, rfl, hh.sqL mb, atI_nat (by rw [List.getElem?_map, el]; rfl), ?_⟩
      rw [← ev]
      exact q
end
end
end K05
set_option Elab.async false
set_option linter.all false
set_option maxRecDepth 100000
set_option maxHeartbeats 4000000
namespace K05
open PySem PySem.Spec PyProof.Rows L2 Wk
local macro_rules | `(tactic| walk_at "u1") => `(tactic| fail "no more")
local macro_rules | `(tactic| walk_at "pos") => `(tactic| first | assumption | omega | decide | (simp only [Int.ofNat_eq_natCast] at *; omega))
local macro_rules | `(tactic| walk_at "sz") => `(tactic| first
  | (simp only [List.length_cons, List.length_nil]; decide)
  | exact Evl.sz_of (by omega)
  | exact Evl.sz_lt (by omega)
  | exact Evl.sz_of (by simp only [List.length_map, List.length_append, List.length_cons, List.length_nil, List.length_replicate]; omega)
  | exact Evl.sz_lt (by simp only [List.length_map, List.length_append, List.length_cons, List.length_nil, List.length_replicate]; omega))
local macro_rules | `(tactic| walk_at "cond") => `(tactic| first
  | exact Or.inr ⟨by decide, by decide⟩
  | (show (0 : Int) < _; first | decide | assumption | omega)
  | exact Or.inl ⟨by omega, by omega⟩
  | exact Or.inr ⟨by omega, by omega⟩
  | exact ⟨by decide, by decide, by decide⟩
  | exact log2_lt (by omega) (by omega)
  | exact ⟨by omega, by omega⟩)
local macro_rules | `(tactic| walk_at "ty") => `(tactic| first
  | exact ty_int | exact ty_bl | exact ty_str | exact ty_non
  | exact ty_L (by assumption) | exact ty_T (by assumption)
  | exact ty_L (SqL.of (by assumption)) | exact ty_T (SqT.of (by assumption)))
local macro_rules | `(tactic| walk_at "kit") => `(tactic| first
  | exact k_ii | exact k_ib | exact k_is | exact k_il | exact k_it
  | exact k_bb | exact k_bi | exact k_bs | exact k_bl | exact k_bt
  | exact k_ss | exact k_sb | exact k_si | exact k_sl | exact k_st
  | exact k_ll | exact k_lb | exact k_li | exact k_ls | exact k_lt
  | exact k_tt | exact k_tb | exact k_ti | exact k_ts | exact k_tl
  | exact k_nn | exact k_ni | exact k_ns | exact k_nl | exact k_nt)
local macro_rules | `(tactic| walk_at "s1") => `(tactic| first
  | with_reducible refine w_seq ?_
  | with_reducible refine w_set ?_
  | with_reducible refine w_op ?_
  | ((with_reducible refine' w_var ?h1 ?_); (case h1 => rfl))
  | with_reducible refine w_c ?_
  | with_reducible refine w_cb ?_
  | with_reducible refine w_cons ?_
  | with_reducible refine w_nil ?_
  | with_reducible refine w_I0 ?_
  | ((with_reducible refine' w_I ?c1 ?_); case c1 => walk_at "cond")
  | with_reducible refine w_ret ?_
  | with_reducible refine w_next ?_
  | with_reducible refine w_ifS ?_
  | with_reducible refine w_test ?_
  | with_reducible refine w_tB ?_
  | with_reducible refine w_k ?_
  | with_reducible refine w_eqI ?_
  | with_reducible refine w_neI ?_
  | with_reducible refine w_eqS ?_
  | with_reducible refine w_neS ?_
  | with_reducible refine w_and ?_
  | with_reducible refine w_or ?_
  | with_reducible refine w_not ?_
  | with_reducible refine w_andV ?_
  | with_reducible refine w_orV ?_
  | with_reducible refine w_notV ?_
  | with_reducible refine w_ifE ?_
  | with_reducible refine w_true ?_
  | with_reducible refine w_false ?_
  | with_reducible refine w_ntrue ?_
  | with_reducible refine w_nfalse ?_
  | with_reducible refine w_call ?_
  | with_reducible refine c_int ?_
  | with_reducible refine c_abs ?_
  | with_reducible refine c_max ?_
  | with_reducible refine c_min ?_
  | with_reducible refine w_drop ?_
  | with_reducible refine w_sfld ?_
  | with_reducible refine w_meth ?_
  | with_reducible refine w_make ?_
  | with_reducible refine w_prop ?_
  | with_reducible refine w_callK ?_
  | with_reducible refine w_callN ?_
  | with_reducible refine w_star ?_
  | with_reducible refine w_gcons ?_
  | with_reducible refine w_gname ?_
  | with_reducible refine w_gnil ?_
  | with_reducible refine w_retN ?_
  | with_reducible refine w_tup ?_
  | with_reducible refine w_lst ?_
  | with_reducible refine w_fld ?_
  | with_reducible refine w_bm ?_
  | with_reducible refine w_bm0 ?_
  | with_reducible refine w_forL ?_
  | with_reducible refine w_forT ?_
  | with_reducible refine w_forS ?_
  | with_reducible refine w_forR ?_
  | with_reducible refine w_lcR ?_
  | with_reducible refine w_lcL ?_
  | with_reducible refine w_lcT ?_
  | with_reducible refine w_isN ?_
  | with_reducible refine w_notN ?_
  | with_reducible refine w_asg ?_
  | with_reducible refine w_gsub ?_
  | ((with_reducible refine' w_aug ?h1 ?_); (case h1 => rfl))
  | with_reducible refine w_augS ?_
  | with_reducible refine w_ipI ?_
  | with_reducible refine w_un ?_
  | with_reducible refine w_U ?_
  | ((with_reducible refine' w_iteF ?f1 ?_); case f1 => (first | (intro h; cases h; done) | decide))
  | ((with_reducible refine' w_iteT ?f1 ?_); case f1 => rfl)
  | ((with_reducible refine' w_iteNF ?f1 ?_); case f1 => rfl)
  | ((with_reducible refine' w_iteNT ?f1 ?_); case f1 => (first | (intro h; cases h; done) | decide))
  | ((with_reducible refine' c_isi ?t1 ?k1 ?_); (case t1 => walk_at "ty"); (case k1 => walk_at "kit"))
  | ((with_reducible refine' w_eq ?e1 ?_); case e1 => rfl)
  | ((with_reducible refine' w_ne ?e1 ?_); case e1 => rfl)
  | walk_at "u1")
local macro_rules | `(tactic| walk_at "s") => `(tactic| repeat walk_at "s1")
local macro_rules | `(tactic| walk_at "mem") => `(tactic| first | with_reducible exact List.mem_cons_self .. | ((with_reducible refine' List.mem_cons_of_mem _ ?q); (case q => walk_at "mem")) | assumption | ((with_reducible refine' List.mem_append_right _ ?q); (case q => walk_at "mem")) | (exact List.mem_append_left _ (by assumption)))
local macro_rules | `(tactic| walk_at "pk") => `(tactic| first | with_reducible exact Pk.here | ((with_reducible refine' Pk.there ?q); (case q => walk_at "pk")) | ((with_reducible refine' Pk.app ?q); (case q => walk_at "pk")))
local macro_rules | `(tactic| walk_at "pkb") => `(tactic| first | with_reducible exact PkB.here | ((with_reducible refine' PkB.there ?q); (case q => walk_at "pkb")) | ((with_reducible refine' PkB.app ?q); (case q => walk_at "pkb")))
local macro_rules | `(tactic| walk_at "spl") => `(tactic| first | with_reducible exact Spl.nil | ((with_reducible refine' Spl.cons ?h ?t); (case h => walk_at "pk"); (case t => walk_at "spl")) | ((with_reducible refine' Spl.blk ?h ?t); (case h => walk_at "pkb"); (case t => walk_at "spl")))
local macro_rules | `(tactic| walk_at "sbx") => `(tactic| first | with_reducible exact Sb.refl | with_reducible exact Sb.nil | with_reducible exact Sb.left | ((with_reducible refine' Sb.cons ?h ?t); (case h => walk_at "pk"); (case t => walk_at "sbx")) | ((with_reducible refine' Sb.blk ?h ?t); (case h => walk_at "pkb"); (case t => walk_at "sbx")) | ((with_reducible refine' Sb.drop ?q); (case q => walk_at "sbx")) | ((with_reducible refine' Sb.right ?q); (case q => walk_at "sbx")))
local macro_rules | `(tactic| walk_at "hd") => `(tactic| first | assumption | exact Hd.sb (by assumption) (by walk_at "sbx"))
local macro_rules | `(tactic| walk_at "sq") => `(tactic| first
  | assumption
  | exact Hd.sqL (by assumption) (by walk_at "mem")
  | exact Hd.sqT (by assumption) (by walk_at "mem")
  | exact Hd.sqF (by assumption) (by walk_at "mem")
  | (refine .inl ?_; walk_at "sq")
  | (refine .inr ?_; walk_at "sq"))
local macro_rules | `(tactic| walk_at "at") => `(tactic| first | rfl | assumption | exact atI_nat (by assumption))
local macro_rules | `(tactic| walk_at "dn1") => `(tactic| first
  | exact Dn.int | exact Dn.str | exact Dn.non | exact Dn.bl | assumption
  | ((refine' Dn.tp ?a1 ?m1 ?l1 ?p1); (case a1 => assumption); (case m1 => walk_at "mem"); (case l1 => (simp only [List.length_cons, List.length_nil]; omega)); (case p1 => walk_at "dns"))
  | ((refine' Dn.lt ?a1 ?m1 ?l1 ?p1); (case a1 => assumption); (case m1 => walk_at "mem"); (case l1 => (simp only [List.length_cons, List.length_nil]; omega)); (case p1 => walk_at "dns")))
local macro_rules | `(tactic| walk_at "dns") => `(tactic| first | exact Paired.nil | exact Dn.ints | ((refine' Paired.cons ?a1 ?b1); (case a1 => walk_at "dn1"); (case b1 => walk_at "dns")))
local macro_rules | `(tactic| walk_at "g1") => `(tactic| first
  | ((with_reducible refine' g_ixI ?h1 ?h2 ?h3 ?_); (case h1 => assumption); (case h2 => walk_at "mem"); (case h3 => omega); intro z hz)
  | ((with_reducible refine' g_ixIT ?h1 ?h2 ?h3 ?_); (case h1 => assumption); (case h2 => walk_at "mem"); (case h3 => omega); intro z hz)
  | ((with_reducible refine' g_setI ?h1 ?h2 ?h3 ?_); (case h1 => assumption); (case h2 => walk_at "pk"); (case h3 => omega); intro H2 hh2)
  | ((with_reducible refine' w_ixL ?h1 ?h2 ?_); (case h1 => walk_at "sq"); (case h2 => walk_at "at"))
  | ((with_reducible refine' w_ixT ?h1 ?h2 ?_); (case h1 => walk_at "sq"); (case h2 => walk_at "at"))
  | ((with_reducible refine' w_ixAny ?h1 ?h2 ?_); (case h1 => walk_at "sq"); (case h2 => walk_at "at"))
  | ((with_reducible refine' c_lenA ?h1 ?_); (case h1 => walk_at "sq"))
  | ((with_reducible refine' c_isi ?t1 ?k1 ?_); (case t1 => first | exact ty_T (by walk_at "sq") | exact ty_L (by walk_at "sq")); (case k1 => walk_at "kit"))
  | ((with_reducible refine' g_lst ?h1 ?h2 ?_); (case h1 => assumption); (case h2 => walk_at "sz"); intro p H2 hh2)
  | ((with_reducible refine' g_tup ?h1 ?h2 ?_); (case h1 => assumption); (case h2 => walk_at "sz"); intro p H2 hh2)
  | ((with_reducible refine' g_dict ?h1 ?_); (case h1 => assumption); intro p H2 hh2)
  | ((with_reducible refine' g_listL ?h1 ?h2 ?_); (case h1 => assumption); (case h2 => walk_at "sq"); intro p H2 hh2)
  | ((with_reducible refine' g_listT ?h1 ?h2 ?_); (case h1 => assumption); (case h2 => walk_at "sq"); intro p H2 hh2)
  | ((with_reducible refine' g_tupL ?h1 ?h2 ?_); (case h1 => assumption); (case h2 => walk_at "sq"); intro p H2 hh2)
  | ((with_reducible refine' g_set ?h1 ?h2 ?h3 ?_); (case h1 => assumption); (case h2 => walk_at "pk"); (case h3 => first | rfl | assumption | exact Evl.ixN_nat (by first | omega | (simp only [List.length_cons, List.length_nil]; omega))); intro H2 hh2)
  | ((with_reducible refine' g_kbm ?h1 ?h2 ?_); (case h1 => assumption); (case h2 => walk_at "mem"))
  | ((with_reducible refine' g_kbm0 ?h1 ?h2 ?_); (case h1 => assumption); (case h2 => walk_at "mem"))
  | ((with_reducible refine' g_app ?h1 ?h2 ?h3 ?_); (case h1 => assumption); (case h2 => walk_at "pk"); (case h3 => walk_at "sz"); intro H2 hh2)
  | ((with_reducible refine' g_kapp ?h1 ?h2 ?h3 ?_); (case h1 => assumption); (case h2 => walk_at "pk"); (case h3 => walk_at "sz"); intro H2 hh2)
  | ((with_reducible refine' g_fld ?h1 ?h2 ?h3 ?h4 ?h5 ?_); (case h1 => assumption); (case h2 => walk_at "mem"); (case h3 => assumption); (case h4 => assumption); (case h5 => rfl))
  | ((with_reducible refine' g_sfld ?h1 ?h2 ?h3 ?h4 ?h5 ?_); (case h1 => assumption); (case h2 => walk_at "pk"); (case h3 => assumption); (case h4 => assumption); (case h5 => decide); intro H2 hh2)
  | ((with_reducible refine' g_meth ?h1 ?h2 ?h3 ?_); (case h1 => assumption); (case h2 => walk_at "mem"); (case h3 => rfl))
  | ((with_reducible refine' g_prop ?h1 ?h2 ?_); (case h1 => assumption); (case h2 => walk_at "mem"))
  | ((with_reducible refine' g_make ?h1 ?_); (case h1 => assumption); intro x H2 hh2)
  | ((with_reducible refine' g_cat ?h1 ?h2 ?h3 ?h4 ?_); (case h1 => assumption); (case h2 => walk_at "mem"); (case h3 => walk_at "mem"); (case h4 => walk_at "sz"); intro p H2 hh2)
  | ((with_reducible refine' g_inT ?h1 ?h2 ?h3 ?h4 ?h5 ?_); (case h1 => assumption); (case h2 => walk_at "mem"); (case h3 => rfl); (case h4 => rfl); (case h5 => rfl)))
local macro_rules | `(tactic| walk_at "gs") => `(tactic| repeat first | walk_at "s1" | walk_at "g1")
local macro_rules | `(tactic| walk_at "ite") => `(tactic| first
  | ((with_reducible refine' w_iteT ?h1 ?_); (case h1 => omega))
  | ((with_reducible refine' w_iteF ?h1 ?_); (case h1 => omega))
  | (with_reducible refine w_ite ?_ ?_ <;> intro hq)
  | ((with_reducible refine' w_iteNT ?h1 ?_); (case h1 => omega))
  | ((with_reducible refine' w_iteNF ?h1 ?_); (case h1 => omega))
  | (with_reducible refine w_iteN ?_ ?_ <;> intro hq))
local macro_rules | `(tactic| walk_at "go") => `(tactic| repeat' first | walk_at "s1" | walk_at "g1" | walk_at "ite")
local macro_rules | `(tactic| walk_at "g1") => `(tactic| first
  | ((with_reducible refine' g_take1 ?h1 ?h2 ?h3 ?h4 ?_); (case h1 => assumption); (case h2 => walk_at "spl"); (case h3 => omega); (case h4 => omega); intro k H2 hk1 hh2)
  | ((with_reducible refine' g_take ?h1 ?h2 ?h4 ?_); (case h1 => assumption); (case h2 => walk_at "spl"); (case h4 => omega); intro k H2 hk1 hh2)
  | ((with_reducible refine' g_betweenN ?h1 ?h2 ?h5 ?h3 ?h4 ?_); (case h1 => assumption); (case h2 => walk_at "spl"); (case h5 => omega); (case h3 => omega); (case h4 => omega); intro k H2 hk1 hk2 hh2)
  | ((with_reducible refine' g_between ?h1 ?h2 ?h3 ?h4 ?_); (case h1 => assumption); (case h2 => walk_at "spl"); (case h3 => omega); (case h4 => omega); intro k H2 hk1 hk2 hh2)
  | ((with_reducible refine' g_size ?h1 ?h2 ?h3 ?h4 ?_); (case h1 => assumption); (case h2 => walk_at "spl"); (case h3 => omega); (case h4 => omega); intro k H2 hk1 hh2)
  | ((with_reducible refine' g_word ?h1 ?h2 ?_); (case h1 => assumption); (case h2 => walk_at "spl"); intro k H2 hk1 hh2))
section
variable {P : Program} {w : World} {K : PySem.W.Frag} {mg : Str → Option Value} {base : Heap} {aREG aOPS : Addr}
theorem own_tb {S : St1} {T : Tb} {p : Nat} (hp : p < T.length) (h : (ownS S T p).2.2.getD p none = some (ownS S T p).1) : tbV (ownS S T p).2.2 = (tbV T).set p (.int (ownS S T p).1) := by
  have fin : ∀ (i : Nat), tbV (T.set p (some i)) = (tbV T).set p (.int i) := fun i => by
    show (T.set p (some i)).map tV = _
    rw [List.map_set]; rfl
  unfold ownS at h ⊢
  cases e : T.getD p none with
  | none => exact fin _
  | some f =>
    dsimp only
    by_cases h1 : hat S f = 1
    · rw [if_pos h1]
      rw [← fin f, set_self (x := some f)]
      rw [List.getD_eq_getElem?_getD] at e
      cases e2 : T[p]? with
      | none => rw [e2] at e; cases e
      | some o => rw [e2] at e; rw [show o = some f from e]
    · rw [if_neg h1]
      exact fin _
theorem g_lowest {H : Hp} {Q : VK} {L : List Cell} {p : Addr} {S : St1} {i : Nat} (hh : Hd H L) (m : lstC p ((hsI S).map V.int) ∈ L) (hlo : lowest S = some i) (q : Q (.int i) H) : rIndex K (.ref p) [.int 0] H Q := by
  obtain ⟨hi, h0, hl⟩ := lowest_some hlo
  refine ⟨p, (hsI S).map V.int, .int 0, i, .int 0, rfl, rfl, hh.sqL m, rfl, ?_, ?_, rfl, fun j z hj hz => ?_, q⟩
  · rw [List.all_eq_true]
    intro v hv
    obtain ⟨k, _, rfl⟩ := List.mem_map.mp hv
    rfl
  · rw [List.getElem?_map, hsI_at hi, h0]; rfl
  · rw [List.getElem?_map, hsI_at (by omega)] at hz
    cases hz
    have := hl j hj
    show ((hat S j : Int) == 0) = false
    rw [beq_eq_false_iff_ne]
    omega
theorem m5 {L R X : List Cell} {c c1 c2 c3 c4 c5 : Cell} (h : c ∈ L) : c ∈ c1 :: c2 :: c3 :: c4 :: c5 :: (L ++ R) := .tail _ (.tail _ (.tail _ (.tail _ (.tail _ (List.mem_append_left _ h)))))
section
variable {C CS tP : Addr}
def sp_lwrite : Sp := fun vs H Q _ => ∃ (sl wa : Addr) (sp : List SpQ) (L1 L2 : List SpQ) (r : SpQ) (who a : Nat) (x : Int) (S : St1) (ps ws : List Pg) (R : List Cell), vs = [.ref sl, .ref wa, .int who, .int a, .int x] ∧ sp = L1 ++ r :: L2 ∧ who = L1.length ∧ WOk S ps (sp.map SpQ.T) ∧ PgOk S ws ∧ Room1 S r.T (a / 8) ∧ a < 8 * r.T.length ∧
  lstC sl (sp.map raV) ∈ R ∧ (∀ q ∈ sp, lstC q.ra [.ref q.s, .ref q.la] ∈ R) ∧ (∀ q ∈ L1 ++ L2, lstC q.la (tbV q.T) ∈ R) ∧ Hd H (lstC r.la (tbV r.T) :: (wdB wa ws ++ R)) ∧
  ∀ ws' H', PgOk (wrS S r.T a x).1 ws' → Hd H' (lstC r.la (tbV (wrS S r.T a x).2) :: (wdB wa ws' ++ R)) → Q .non H'
theorem c_lwrite (T : Txt K mg aREG aOPS) (d : DefAt K mg "_law_write" s__law_write) (c__law_holds : C8.Cal P w K mg base 1 "_law_holds" sp_lholds []) : C8.Cal P w K mg base 2 "_law_write" sp_lwrite [] := by
  refine mk d sc__law_write (fun _ _ _ _ _ _ us hl => match us, hl with | [_, _, _, _, _], _ => rfl) (fun vs H Q E h => ?_) (fun f cdv A_ outer s H vs Q E hr h => ?_)
  · obtain ⟨sl, wa, sp, L1, L2, r, who, a, x, S, ps, ws, R, rfl, _⟩ := h
    rfl
  · obtain ⟨sl, wa, sp, L1, L2, r, who, a, x, S, ps, ws, R, rfl, esp, ewho, ok, pk, rm, ha, msl, mra, mla, hh, q⟩ := h
    refine ⟨_, (pss_cons (ps_set (i := 5) sc__law_write.nd rfl (Or.inl rfl) (pe_ix ix_list (pe_ix ix_list (pv 0) (pv 2) (fun _ _ => rfl)) pe_int (fun _ _ => rfl)))
  (pss_cons (ps_set (i := 6) sc__law_write.nd rfl (Or.inl rfl) (pe_op op_fdiv (pv 3) pe_int))
  (pss_cons (ps_set (i := 7) sc__law_write.nd rfl (Or.inl rfl) (pe_ix ix_list (pv 5) (pv 6) (fun _ _ => rfl)))
  (pss_cons (ps_set (i := 8) sc__law_write.nd rfl (Or.inl rfl) (C8.pe_c c__law_holds hr (by first | decide | omega) rfl (pa_cons (pv 0) (pa_cons (pe_callB Wk.b_len (by rfl) T.b_len (by decide +kernel) (pa_cons (pv 1) pa_nil)) pa_nil))))
  (C8.pss_cut (ps_if (pt_cmpR op_isN1 (pv 7) pe_non (nomark _))
    (pss_cons (ps_set (i := 7) sc__law_write.nd rfl (Or.inl rfl) (pe_bm PySem.F.plainAttrs_list PySem.F.slot_list_index PySem.F.type_list_index mt_index (pv 8) (pa_cons pe_int pa_nil)))
      (pss_one (ps_asg (pe_op op_rep (pe_lst (pa_cons pe_int pa_nil)) pe_int) (pg_sub (pv 1) (pv 7) set_list))))
    (pss_one (ps_if (pt_cmpR op_gt (pe_ix ix_list (pv 8) (pv 7) (fun _ _ => rfl)) pe_int (nomark _))
        (pss_cons (ps_set (i := 7) sc__law_write.nd rfl (Or.inl rfl) (pe_bm PySem.F.plainAttrs_list PySem.F.slot_list_index PySem.F.type_list_index mt_index (pv 8) (pa_cons pe_int pa_nil)))
          (pss_one (ps_asg (pe_callTy Wk.b_list (by rfl) T.b_list (by decide +kernel) (pa_cons (pe_ix ix_list (pv 1) (pe_ix ix_list (pv 5) (pv 6) (fun _ _ => rfl)) (fun _ _ => rfl)) pa_nil)) (pg_sub (pv 1) (pv 7) set_list))))
        pss_nil)))
  (pss_cons (ps_asg (pv 7) (pg_sub (pv 5) (pv 6) set_list))
  (pss_cons (ps_set (i := 9) sc__law_write.nd rfl (Or.inl rfl) (pe_ix ix_list (pv 1) (pv 7) (fun _ _ => rfl)))
  (pss_one (ps_asg (pv 4) (pg_sub (pv 9) (pe_op op_sub (pv 3) (pe_op op_mul pe_int (pv 6))) set_list)))))))))), ?_⟩
    have hsl : 2000 < sizeLine := by rw [sizeLine_eq]; decide
    have hwho : sp[who]? = some r := by rw [esp, ewho, List.getElem?_append_right (Nat.le_refl _), Nat.sub_self]; rfl
    have hr0 : r ∈ sp := List.mem_of_getElem? hwho
    have t := ok.tok (T := r.T) (List.mem_map_of_mem hr0)
    have t16 := t.n16
    have hp : a / 8 < r.T.length := by omega
    obtain ⟨o1, o2, o3, o4, o5, o6⟩ := own_ok ok.f t hp rm
    have mr := mra r hr0
    have h1 : Hd H (lstC r.la (tbV r.T) :: lstC wa (ws.map pgV) :: (pgC ws ++ R)) := hh
    have hwl : (ws.map pgV).length = S.length := by rw [List.length_map]; exact pk.1
    have h96 := ok.f.l
    clear hh
    walk_at "gs"
    have inR : ∀ {c : Cell}, c ∈ R → c ∈ lstC r.la (tbV r.T) :: lstC wa (ws.map pgV) :: (pgC ws ++ R) := fun h => .tail _ (.tail _ (List.mem_append_right _ h))
    refine w_ixL (h1.sqL (inR msl)) (atI_nat (v := .ref r.ra) (by rw [List.getElem?_map, hwho]; rfl)) ?_
    walk_at "gs"
    rw [show ((a : Int) / 8) = ((a / 8 : Nat) : Int) by omega]
    have hl : (tbV r.T).length = r.T.length := List.length_map ..
    have hpv := tb_at hp
    refine w_ixL (h1.sqL (.head _)) (atI_nat hpv) ?_
    walk_at "gs"
    rw [hwl]
    refine ⟨sl, sp, S, _, rfl, h96, h1, inR msl, fun z hz => ⟨⟨inR (mra z hz), ?_⟩, (ok.t z.T (List.mem_map_of_mem hz)).2⟩, ok.c, ok.e, fun hp0 H2 h2 => ?_⟩
    · have hz2 := hz
      rw [esp] at hz2
      rcases List.mem_append.mp hz2 with y | y
      · exact inR (mla z (List.mem_append_left _ y))
      · rcases List.mem_cons.mp y with y | y
        · rw [y]; exact .head _
        · exact inR (mla z (List.mem_append_right _ y))
    clear h1
    have hz0 := hsI_len (S := S)
    walk_at "gs"
    show C8.tCut _ _ _ _ _
    refine w_cut (fun σ H => ∃ ws1, σ = [some (.ref sl), some (.ref wa), some (.int who), some (.int a), some (.int x), some (.ref r.la), some (.int (a / 8 : Nat)), some (.int (ownS S r.T (a / 8)).1), some (.ref hp0), none] ∧ PgOk (ownS S r.T (a / 8)).2.1 ws1 ∧ Hd H (lstC hp0 ((hsI S).map V.int) :: lstC r.la (tbV r.T) :: lstC wa (ws1.map pgV) :: (pgC ws1 ++ R))) ?_ ?_
    · clear q
      cases e : r.T.getD (a / 8) none with
      | none =>
        obtain ⟨i, hi⟩ : ∃ i, lowest S = some i := by
          rcases rm with ⟨f, e2, _⟩ | h
          · rw [e] at e2; cases e2
          · exact h
        obtain ⟨hil, hi0, _⟩ := lowest_some hi
        have eo : ownS S r.T (a / 8) = (i, S.set i (1, List.replicate 8 0), r.T.set (a / 8) (some i)) := by unfold ownS; rw [e]; simp only [hi, Option.getD_some]
        rw [eo]
        rw [show tV none = V.non from rfl]
        walk_at "gs"
        refine g_lowest h2 (.head _) hi ?_
        walk_at "gs"
        rename_i p3 H3 h3
        refine g_rep h3 (by walk_at "mem") (by omega) (by omega) (by decide) fun p4 H4 h4 => ?_
        replace h4 : Hd H4 (lstC p4 ((List.replicate 8 (0 : Int)).map V.int) :: lstC p3 [V.int 0] :: lstC hp0 ((hsI S).map V.int) :: lstC r.la (tbV r.T) :: lstC wa (ws.map pgV) :: (pgC ws ++ R)) := h4
        clear h2 h3
        have hil2 : i < ws.length := by rw [pk.1]; exact hil
        walk_at "gs"
        rename_i H5 h5
        have h6 := Hd.pgNew (i := i) (a := p4) (ws := List.replicate 8 0) (ps := ws) (R := lstC hp0 ((hsI S).map V.int) :: lstC r.la (tbV r.T) :: lstC wa ((ws.map pgV).set i (.ref p4)) :: R) (Hd.sb h5 (by walk_at "sbx")) hil2
        have e2 : (ws.map pgV).set i (.ref p4) = (ws.set i (some (p4, List.replicate 8 0))).map pgV := by rw [List.map_set]; rfl
        rw [e2] at h6
        exact ⟨ws.set i (some (p4, List.replicate 8 0)), rfl, pk.page hil List.length_replicate, Hd.sb h6 (by walk_at "sbx")⟩
      | some fr =>
        obtain ⟨hf, h0⟩ := t.e fr (tb_mem e)
        have hzf := hsI_at hf
        rw [show tV (some fr) = V.int fr from rfl]
        by_cases h1 : hat S fr = 1
        · have eo : ownS S r.T (a / 8) = (fr, S, r.T) := by unfold ownS; rw [e]; simp only [if_pos h1]
          rw [eo]
          walk_at "gs"
          rename_i z hz
          obtain rfl : z = (hat S fr : Int) := by
            rw [hzf] at hz
            exact (Option.some.inj hz).symm
          refine w_iteF (by omega) ?_
          exact ⟨ws, rfl, pk, h2⟩
        · obtain ⟨i, hi⟩ : ∃ i, lowest S = some i := by
            rcases rm with ⟨f, e2, e3⟩ | h
            · rw [e] at e2; cases e2; exact absurd e3 h1
            · exact h
          obtain ⟨hil, hi0, _⟩ := lowest_some hi
          have hne : fr ≠ i := fun z => by rw [← z] at hi0; omega
          have eo : ownS S r.T (a / 8) = (i, (S.set i (1, wat S fr)).set fr (hat S fr - 1, wat S fr), r.T.set (a / 8) (some i)) := by unfold ownS; rw [e]; simp only [if_neg h1, hi, Option.getD_some]
          rw [eo]
          obtain ⟨h8, b, hb⟩ := pk.2 fr hf h0
          have hpw : (ws.map pgV)[fr]? = some (.ref b) := by rw [List.getElem?_map, hb]; rfl
          have mb : lstC b ((wat S fr).map V.int) ∈ pgC ws := pgC_mem hb
          walk_at "gs"
          rename_i z hz
          obtain rfl : z = (hat S fr : Int) := by
            rw [hzf] at hz
            exact (Option.some.inj hz).symm
          refine w_iteT (by omega) ?_
          walk_at "gs"
          refine g_lowest h2 (.head _) hi ?_
          have hil2 : i < ws.length := by rw [pk.1]; exact hil
          walk_at "gs"
          rw [e, show tV (some fr) = V.int fr from rfl]
          refine w_ixL (h2.sqL (.tail _ (.tail _ (.head _)))) (atI_nat hpw) ?_
          have mb2 : lstC b ((wat S fr).map V.int) ∈ lstC hp0 ((hsI S).map V.int) :: lstC r.la (tbV r.T) :: lstC wa (ws.map pgV) :: (pgC ws ++ R) := .tail _ (.tail _ (.tail _ (List.mem_append_left _ mb)))
          walk_at "gs"
          rename_i p4 H4 h4 H5 h5
          have h6 := Hd.pgNew (i := i) (a := p4) (ws := wat S fr) (ps := ws) (R := lstC hp0 ((hsI S).map V.int) :: lstC r.la (tbV r.T) :: lstC wa ((ws.map pgV).set i (.ref p4)) :: R) (Hd.sb h5 (by walk_at "sbx")) hil2
          have e2 : (ws.map pgV).set i (.ref p4) = (ws.set i (some (p4, wat S fr))).map pgV := by rw [List.map_set]; rfl
          rw [e2] at h6
          have hf2 : fr < (S.set i (1, wat S fr)).length := by rw [List.length_set]; exact hf
          have ha2 : hat (S.set i (1, wat S fr)) fr = hat S fr := by rw [hat_set hil, if_neg hne]
          have wa2 : wat (S.set i (1, wat S fr)) fr = wat S fr := by rw [wat_set hil, if_neg hne]
          have o3' := PgOk.hold (h := hat S fr - 1) (pk.page (a := p4) (h := 1) hil h8) hf2 (by rw [ha2]; exact h0)
          rw [wa2] at o3'
          exact ⟨ws.set i (some (p4, wat S fr)), rfl, o3', Hd.sb h6 (by walk_at "sbx")⟩
    rintro σ H3 ⟨ws1, rfl, p1, h3⟩
    clear h2
    have etb := own_tb hp o5
    unfold wrS at q
    generalize ownS S r.T (a / 8) = O at *
    have ol : O.1 < O.2.1.length := by rw [o3]; exact o1
    obtain ⟨h8, b, hb⟩ := p1.2 O.1 ol (by omega)
    have hpw : (ws1.map pgV)[O.1]? = some (.ref b) := by rw [List.getElem?_map, hb]; rfl
    have hwl1 : (ws1.map pgV).length = O.2.1.length := by rw [List.length_map]; exact p1.1
    walk_at "gs"
    rename_i H4 h4
    rw [← etb] at h4
    rw [show ((a : Int) - 8 * ((a / 8 : Nat) : Int)) = ((a % 8 : Nat) : Int) by omega]
    have h5 := Hd.pgGet (R := lstC r.la (tbV O.2.2) :: lstC hp0 ((hsI S).map V.int) :: lstC wa (ws1.map pgV) :: R) (Hd.sb h4 (by walk_at "sbx")) hb
    clear h3 h4
    walk_at "gs"
    rename_i H6 h6
    have h7 := Hd.pgPut (R := lstC r.la (tbV O.2.2) :: lstC hp0 ((hsI S).map V.int) :: lstC wa (ws1.map pgV) :: R) (a := b) (ws := (wat O.2.1 O.1).set (a % 8) x) (Hd.sb h6 (by walk_at "sbx")) (by rw [p1.1]; exact ol)
    have e2 : (ws1.set O.1 (some (b, (wat O.2.1 O.1).set (a % 8) x))).map pgV = ws1.map pgV := by
      rw [List.map_set]
      exact set_self hpw
    refine q (ws1.set O.1 (some (b, (wat O.2.1 O.1).set (a % 8) x))) H6 (p1.page ol (by rw [List.length_set]; exact h8)) ?_
    unfold wdB
    rw [e2]
    exact (show Hd H6 (lstC r.la (tbV O.2.2) :: lstC wa (ws1.map pgV) :: (pgC (ws1.set O.1 (some (b, (wat O.2.1 O.1).set (a % 8) x))) ++ R)) from Hd.sb h7 (by walk_at "sbx"))
end
end
end K05
set_option Elab.async false
set_option linter.all false
set_option maxRecDepth 100000
set_option maxHeartbeats 4000000
namespace K05
open PySem PySem.Spec PyProof.Rows L2 Wk
local macro_rules | `(tactic| walk_at "u1") => `(tactic| fail "no more")
local macro_rules | `(tactic| walk_at "pos") => `(tactic| first | assumption | omega | decide | (simp only [Int.ofNat_eq_natCast] at *; omega))
local macro_rules | `(tactic| walk_at "sz") => `(tactic| first
  | (simp only [List.length_cons, List.length_nil]; decide)
  | exact Evl.sz_of (by omega)
  | exact Evl.sz_lt (by omega)
  | exact Evl.sz_of (by simp only [List.length_map, List.length_append, List.length_cons, List.length_nil, List.length_replicate]; omega)
  | exact Evl.sz_lt (by simp only [List.length_map, List.length_append, List.length_cons, List.length_nil, List.length_replicate]; omega))
local macro_rules | `(tactic| walk_at "cond") => `(tactic| first
  | exact Or.inr ⟨by decide, by decide⟩
  | (show (0 : Int) < _; first | decide | assumption | omega)
  | exact Or.inl ⟨by omega, by omega⟩
  | exact Or.inr ⟨by omega, by omega⟩
  | exact ⟨by decide, by decide, by decide⟩
  | exact log2_lt (by omega) (by omega)
  | exact ⟨by omega, by omega⟩)
local macro_rules | `(tactic| walk_at "ty") => `(tactic| first
  | exact ty_int | exact ty_bl | exact ty_str | exact ty_non
  | exact ty_L (by assumption) | exact ty_T (by assumption)
  | exact ty_L (SqL.of (by assumption)) | exact ty_T (SqT.of (by assumption)))
local macro_rules | `(tactic| walk_at "kit") => `(tactic| first
  | exact k_ii | exact k_ib | exact k_is | exact k_il | exact k_it
  | exact k_bb | exact k_bi | exact k_bs | exact k_bl | exact k_bt
  | exact k_ss | exact k_sb | exact k_si | exact k_sl | exact k_st
  | exact k_ll | exact k_lb | exact k_li | exact k_ls | exact k_lt
  | exact k_tt | exact k_tb | exact k_ti | exact k_ts | exact k_tl
  | exact k_nn | exact k_ni | exact k_ns | exact k_nl | exact k_nt)
local macro_rules | `(tactic| walk_at "s1") => `(tactic| first
  | with_reducible refine w_seq ?_
  | with_reducible refine w_set ?_
  | with_reducible refine w_op ?_
  | ((with_reducible refine' w_var ?h1 ?_); (case h1 => rfl))
  | with_reducible refine w_c ?_
  | with_reducible refine w_cb ?_
  | with_reducible refine w_cons ?_
  | with_reducible refine w_nil ?_
  | with_reducible refine w_I0 ?_
  | ((with_reducible refine' w_I ?c1 ?_); case c1 => walk_at "cond")
  | with_reducible refine w_ret ?_
  | with_reducible refine w_next ?_
  | with_reducible refine w_ifS ?_
  | with_reducible refine w_test ?_
  | with_reducible refine w_tB ?_
  | with_reducible refine w_k ?_
  | with_reducible refine w_eqI ?_
  | with_reducible refine w_neI ?_
  | with_reducible refine w_eqS ?_
  | with_reducible refine w_neS ?_
  | with_reducible refine w_and ?_
  | with_reducible refine w_or ?_
  | with_reducible refine w_not ?_
  | with_reducible refine w_andV ?_
  | with_reducible refine w_orV ?_
  | with_reducible refine w_notV ?_
  | with_reducible refine w_ifE ?_
  | with_reducible refine w_true ?_
  | with_reducible refine w_false ?_
  | with_reducible refine w_ntrue ?_
  | with_reducible refine w_nfalse ?_
  | with_reducible refine w_call ?_
  | with_reducible refine c_int ?_
  | with_reducible refine c_abs ?_
  | with_reducible refine c_max ?_
  | with_reducible refine c_min ?_
  | with_reducible refine w_drop ?_
  | with_reducible refine w_sfld ?_
  | with_reducible refine w_meth ?_
  | with_reducible refine w_make ?_
  | with_reducible refine w_prop ?_
  | with_reducible refine w_callK ?_
  | with_reducible refine w_callN ?_
  | with_reducible refine w_star ?_
  | with_reducible refine w_gcons ?_
  | with_reducible refine w_gname ?_
  | with_reducible refine w_gnil ?_
  | with_reducible refine w_retN ?_
  | with_reducible refine w_tup ?_
  | with_reducible refine w_lst ?_
  | with_reducible refine w_fld ?_
  | with_reducible refine w_bm ?_
  | with_reducible refine w_bm0 ?_
  | with_reducible refine w_forL ?_
  | with_reducible refine w_forT ?_
  | with_reducible refine w_forS ?_
  | with_reducible refine w_forR ?_
  | with_reducible refine w_lcR ?_
  | with_reducible refine w_lcL ?_
  | with_reducible refine w_lcT ?_
  | with_reducible refine w_isN ?_
  | with_reducible refine w_notN ?_
  | with_reducible refine w_asg ?_
  | with_reducible refine w_gsub ?_
  | ((with_reducible refine' w_aug ?h1 ?_); (case h1 => rfl))
  | with_reducible refine w_augS ?_
  | with_reducible refine w_ipI ?_
  | with_reducible refine w_un ?_
  | with_reducible refine w_U ?_
  | ((with_reducible refine' w_iteF ?f1 ?_); case f1 => (first | (intro h; cases h; done) | decide))
  | ((with_reducible refine' w_iteT ?f1 ?_); case f1 => rfl)
  | ((with_reducible refine' w_iteNF ?f1 ?_); case f1 => rfl)
  | ((with_reducible refine' w_iteNT ?f1 ?_); case f1 => (first | (intro h; cases h; done) | decide))
  | ((with_reducible refine' c_isi ?t1 ?k1 ?_); (case t1 => walk_at "ty"); (case k1 => walk_at "kit"))
  | ((with_reducible refine' w_eq ?e1 ?_); case e1 => rfl)
  | ((with_reducible refine' w_ne ?e1 ?_); case e1 => rfl)
  | walk_at "u1")
local macro_rules | `(tactic| walk_at "s") => `(tactic| repeat walk_at "s1")
local macro_rules | `(tactic| walk_at "mem") => `(tactic| first | with_reducible exact List.mem_cons_self .. | ((with_reducible refine' List.mem_cons_of_mem _ ?q); (case q => walk_at "mem")) | assumption | ((with_reducible refine' List.mem_append_right _ ?q); (case q => walk_at "mem")) | (exact List.mem_append_left _ (by assumption)))
local macro_rules | `(tactic| walk_at "pk") => `(tactic| first | with_reducible exact Pk.here | ((with_reducible refine' Pk.there ?q); (case q => walk_at "pk")) | ((with_reducible refine' Pk.app ?q); (case q => walk_at "pk")))
local macro_rules | `(tactic| walk_at "pkb") => `(tactic| first | with_reducible exact PkB.here | ((with_reducible refine' PkB.there ?q); (case q => walk_at "pkb")) | ((with_reducible refine' PkB.app ?q); (case q => walk_at "pkb")))
local macro_rules | `(tactic| walk_at "spl") => `(tactic| first | with_reducible exact Spl.nil | ((with_reducible refine' Spl.cons ?h ?t); (case h => walk_at "pk"); (case t => walk_at "spl")) | ((with_reducible refine' Spl.blk ?h ?t); (case h => walk_at "pkb"); (case t => walk_at "spl")))
local macro_rules | `(tactic| walk_at "sbx") => `(tactic| first | with_reducible exact Sb.refl | with_reducible exact Sb.nil | with_reducible exact Sb.left | ((with_reducible refine' Sb.cons ?h ?t); (case h => walk_at "pk"); (case t => walk_at "sbx")) | ((with_reducible refine' Sb.blk ?h ?t); (case h => walk_at "pkb"); (case t => walk_at "sbx")) | ((with_reducible refine' Sb.drop ?q); (case q => walk_at "sbx")) | ((with_reducible refine' Sb.right ?q); (case q => walk_at "sbx")))
local macro_rules | `(tactic| walk_at "hd") => `(tactic| first | assumption | exact Hd.sb (by assumption) (by walk_at "sbx"))
local macro_rules | `(tactic| walk_at "sq") => `(tactic| first
  | assumption
  | exact Hd.sqL (by assumption) (by walk_at "mem")
  | exact Hd.sqT (by assumption) (by walk_at "mem")
  | exact Hd.sqF (by assumption) (by walk_at "mem")
  | (refine .inl ?_; walk_at "sq")
  | (refine .inr ?_; walk_at "sq"))
local macro_rules | `(tactic| walk_at "at") => `(tactic| first | rfl | assumption | exact atI_nat (by assumption))
local macro_rules | `(tactic| walk_at "dn1") => `(tactic| first
  | exact Dn.int | exact Dn.str | exact Dn.non | exact Dn.bl | assumption
  | ((refine' Dn.tp ?a1 ?m1 ?l1 ?p1); (case a1 => assumption); (case m1 => walk_at "mem"); (case l1 => (simp only [List.length_cons, List.length_nil]; omega)); (case p1 => walk_at "dns"))
  | ((refine' Dn.lt ?a1 ?m1 ?l1 ?p1); (case a1 => assumption); (case m1 => walk_at "mem"); (case l1 => (simp only [List.length_cons, List.length_nil]; omega)); (case p1 => walk_at "dns")))
local macro_rules | `(tactic| walk_at "dns") => `(tactic| first | exact Paired.nil | exact Dn.ints | ((refine' Paired.cons ?a1 ?b1); (case a1 => walk_at "dn1"); (case b1 => walk_at "dns")))
local macro_rules | `(tactic| walk_at "g1") => `(tactic| first
  | ((with_reducible refine' g_ixI ?h1 ?h2 ?h3 ?_); (case h1 => assumption); (case h2 => walk_at "mem"); (case h3 => omega); intro z hz)
  | ((with_reducible refine' g_ixIT ?h1 ?h2 ?h3 ?_); (case h1 => assumption); (case h2 => walk_at "mem"); (case h3 => omega); intro z hz)
  | ((with_reducible refine' g_setI ?h1 ?h2 ?h3 ?_); (case h1 => assumption); (case h2 => walk_at "pk"); (case h3 => omega); intro H2 hh2)
  | ((with_reducible refine' w_ixL ?h1 ?h2 ?_); (case h1 => walk_at "sq"); (case h2 => walk_at "at"))
  | ((with_reducible refine' w_ixT ?h1 ?h2 ?_); (case h1 => walk_at "sq"); (case h2 => walk_at "at"))
  | ((with_reducible refine' w_ixAny ?h1 ?h2 ?_); (case h1 => walk_at "sq"); (case h2 => walk_at "at"))
  | ((with_reducible refine' c_lenA ?h1 ?_); (case h1 => walk_at "sq"))
  | ((with_reducible refine' c_isi ?t1 ?k1 ?_); (case t1 => first | exact ty_T (by walk_at "sq") | exact ty_L (by walk_at "sq")); (case k1 => walk_at "kit"))
  | ((with_reducible refine' g_lst ?h1 ?h2 ?_); (case h1 => assumption); (case h2 => walk_at "sz"); intro p H2 hh2)
  | ((with_reducible refine' g_tup ?h1 ?h2 ?_); (case h1 => assumption); (case h2 => walk_at "sz"); intro p H2 hh2)
  | ((with_reducible refine' g_dict ?h1 ?_); (case h1 => assumption); intro p H2 hh2)
  | ((with_reducible refine' g_listL ?h1 ?h2 ?_); (case h1 => assumption); (case h2 => walk_at "sq"); intro p H2 hh2)
  | ((with_reducible refine' g_listT ?h1 ?h2 ?_); (case h1 => assumption); (case h2 => walk_at "sq"); intro p H2 hh2)
  | ((with_reducible refine' g_tupL ?h1 ?h2 ?_); (case h1 => assumption); (case h2 => walk_at "sq"); intro p H2 hh2)
  | ((with_reducible refine' g_set ?h1 ?h2 ?h3 ?_); (case h1 => assumption); (case h2 => walk_at "pk"); (case h3 => first | rfl | assumption | exact Evl.ixN_nat (by first | omega | (simp only [List.length_cons, List.length_nil]; omega))); intro H2 hh2)
  | ((with_reducible refine' g_kbm ?h1 ?h2 ?_); (case h1 => assumption); (case h2 => walk_at "mem"))
  | ((with_reducible refine' g_kbm0 ?h1 ?h2 ?_); (case h1 => assumption); (case h2 => walk_at "mem"))
  | ((with_reducible refine' g_app ?h1 ?h2 ?h3 ?_); (case h1 => assumption); (case h2 => walk_at "pk"); (case h3 => walk_at "sz"); intro H2 hh2)
  | ((with_reducible refine' g_kapp ?h1 ?h2 ?h3 ?_); (case h1 => assumption); (case h2 => walk_at "pk"); (case h3 => walk_at "sz"); intro H2 hh2)
  | ((with_reducible refine' g_fld ?h1 ?h2 ?h3 ?h4 ?h5 ?_); (case h1 => assumption); (case h2 => walk_at "mem"); (case h3 => assumption); (case h4 => assumption); (case h5 => rfl))
  | ((with_reducible refine' g_sfld ?h1 ?h2 ?h3 ?h4 ?h5 ?_); (case h1 => assumption); (case h2 => walk_at "pk"); (case h3 => assumption); (case h4 => assumption); (case h5 => decide); intro H2 hh2)
  | ((with_reducible refine' g_meth ?h1 ?h2 ?h3 ?_); (case h1 => assumption); (case h2 => walk_at "mem"); (case h3 => rfl))
  | ((with_reducible refine' g_prop ?h1 ?h2 ?_); (case h1 => assumption); (case h2 => walk_at "mem"))
  | ((with_reducible refine' g_make ?h1 ?_); (case h1 => assumption); intro x H2 hh2)
  | ((with_reducible refine' g_cat ?h1 ?h2 ?h3 ?h4 ?_); (case h1 => assumption); (case h2 => walk_at "mem"); (case h3 => walk_at "mem"); (case h4 => walk_at "sz"); intro p H2 hh2)
  | ((with_reducible refine' g_inT ?h1 ?h2 ?h3 ?h4 ?h5 ?_); (case h1 => assumption); (case h2 => walk_at "mem"); (case h3 => rfl); (case h4 => rfl); (case h5 => rfl)))
local macro_rules | `(tactic| walk_at "gs") => `(tactic| repeat first | walk_at "s1" | walk_at "g1")
local macro_rules | `(tactic| walk_at "ite") => `(tactic| first
  | ((with_reducible refine' w_iteT ?h1 ?_); (case h1 => omega))
  | ((with_reducible refine' w_iteF ?h1 ?_); (case h1 => omega))
  | (with_reducible refine w_ite ?_ ?_ <;> intro hq)
  | ((with_reducible refine' w_iteNT ?h1 ?_); (case h1 => omega))
  | ((with_reducible refine' w_iteNF ?h1 ?_); (case h1 => omega))
  | (with_reducible refine w_iteN ?_ ?_ <;> intro hq))
local macro_rules | `(tactic| walk_at "go") => `(tactic| repeat' first | walk_at "s1" | walk_at "g1" | walk_at "ite")
local macro_rules | `(tactic| walk_at "g1") => `(tactic| first
  | ((with_reducible refine' g_take1 ?h1 ?h2 ?h3 ?h4 ?_); (case h1 => assumption); (case h2 => walk_at "spl"); (case h3 => omega); (case h4 => omega); intro k H2 hk1 hh2)
  | ((with_reducible refine' g_take ?h1 ?h2 ?h4 ?_); (case h1 => assumption); (case h2 => walk_at "spl"); (case h4 => omega); intro k H2 hk1 hh2)
  | ((with_reducible refine' g_betweenN ?h1 ?h2 ?h5 ?h3 ?h4 ?_); (case h1 => assumption); (case h2 => walk_at "spl"); (case h5 => omega); (case h3 => omega); (case h4 => omega); intro k H2 hk1 hk2 hh2)
  | ((with_reducible refine' g_between ?h1 ?h2 ?h3 ?h4 ?_); (case h1 => assumption); (case h2 => walk_at "spl"); (case h3 => omega); (case h4 => omega); intro k H2 hk1 hk2 hh2)
  | ((with_reducible refine' g_size ?h1 ?h2 ?h3 ?h4 ?_); (case h1 => assumption); (case h2 => walk_at "spl"); (case h3 => omega); (case h4 => omega); intro k H2 hk1 hh2)
  | ((with_reducible refine' g_word ?h1 ?h2 ?_); (case h1 => assumption); (case h2 => walk_at "spl"); intro k H2 hk1 hh2))
section
variable {P : Program} {w : World} {K : PySem.W.Frag} {mg : Str → Option Value} {base : Heap} {aREG aOPS : Addr}
def tD : Option Nat → PyData
  | none => .none
  | some f => .int f
def tabD (T : Tb) : PyData := .list (T.map tD)
theorem dn_t {H : Hp} {n : Nat} : ∀ {T : Tb}, Paired (Dn K [] H n) (tbV T) (T.map tD)
  | [] => .nil
  | none :: _ => .cons Dn.non dn_t
  | some _ :: _ => .cons Dn.int dn_t
theorem dn_tab {H : Hp} {L : List Cell} {p : Addr} {T : Tb} {n : Nat} (h : Hd H L) (m : lstC p (tbV T) ∈ L) (hl : T.length ≤ 16) : Dn K [] H (n + 1) (.ref p) (tabD T) := Dn.lt h m (by rw [List.length_map]; omega) dn_t
section
variable {C CS tP : Addr}
def sp_looks (C CS : Addr) : Sp := fun vs H Q _ => ∃ (W : Wq) (sl ch : Addr) (cs : List Nat) (R : List Cell), vs = [.ref W.A.F, .ref sl, .int W.S.length, .ref ch] ∧ W.ok ∧ (∀ x ∈ cs, x < W.S.length) ∧ lstC sl (W.sp.map raV) ∈ R ∧ lstC ch (cs.map fun x => V.int (x : Nat)) ∈ R ∧ Hd H (wQ C CS W ++ R) ∧ ∀ H', Hd H' (wQ C CS W ++ R) → Q (.bl true) H'
theorem c_looks (T : Txt K mg aREG aOPS) (d : DefAt K mg "_law_looks" s__law_looks) (c_Space_table : C8.Met P w K mg base 2 CS "table" (sp_table CS) []) (c_Frames_free : Prp P w K mg base 1 C "free" (sp_free C)) (c_Frames_holds : C8.Met P w K mg base 5 C "holds" (sp_holds C) []) (c__law_holds : C8.Cal P w K mg base 1 "_law_holds" sp_lholds []) (c__law_alike : C8.Cal P w K mg base 3 "_law_alike" (sp_alike K 3) []) : C8.Cal P w K mg base 6 "_law_looks" (sp_looks C CS) [] := by
  refine mk d sc__law_looks (fun _ _ _ _ _ _ us hl => match us, hl with | [_, _, _, _], _ => rfl) (fun vs H Q E h => ?_) (fun f cdv A_ outer s H vs Q E hr h => ?_)
  · obtain ⟨W, sl, ch, cs, R, rfl, _⟩ := h
    rfl
  · obtain ⟨W, sl, ch, cs, R, rfl, ok, hcs, msl, mch, hh, q⟩ := h
    refine ⟨_, (pss_cons (ps_for PassesOwn.never rfl (pi_list (pv 1)) (pg_name (i := 4) sc__law_looks.nd rfl (Or.inl rfl))
    (pss_cons (ps_set (i := 5) sc__law_looks.nd rfl (Or.inl rfl) (C8.pe_mt0 c_Space_table hr (by first | decide | omega) (pe_ix ix_list (pv 4) pe_int (fun _ _ => rfl))))
      (pss_cons (ps_if (pt_not (pt_val (C8.pe_c c__law_alike hr (by first | decide | omega) rfl (pa_cons (pe_ix ix_list (pv 4) pe_int (fun _ _ => rfl)) (pa_cons (pv 5) pa_nil)))))
        (pss_one (ps_ret pe_bl))
        pss_nil)
      (pss_cons (ps_asg (pv 2) (pg_sub (pv 5) pe_int set_list))
      (pss_one (ps_expr (pe_bm PySem.F.plainAttrs_list PySem.F.slot_list_append PySem.F.type_list_append mt_append (pv 5) (pa_cons pe_int pa_nil))))))))
  (pss_cons (ps_set (i := 5) sc__law_looks.nd rfl (Or.inl rfl) (Wk.pe_pr c_Frames_free hr (by first | decide | omega) (pv 0)))
  (pss_cons (ps_set (i := 6) sc__law_looks.nd rfl (Or.inr rfl) (C8.pe_c c__law_holds hr (by first | decide | omega) rfl (pa_cons (pv 1) (pa_cons (pv 2) pa_nil))))
  (pss_cons (ps_if (pt_not (pt_val (C8.pe_c c__law_alike hr (by first | decide | omega) rfl (pa_cons (pe_lc (own := [("place", 7)]) rfl sc__law_looks.nd (pi_range1 rfl T.b_range (pa_cons (pv 2) pa_nil)) (blkOk_by (own := [("place", 7)]) (N := nm__law_looks) (sc := defScope s__law_looks) (by decide +kernel)) (fun _ _ _ _ _ => (pg_name (i := 7) sc__law_looks.nd rfl (Or.inl rfl))) (fun _ _ _ _ _ => (pts_one (pt_cmpR op_eq (pe_ix (show IxR _ (rIxL K) from ix_list) (pv 6) (pv 7) (fun _ _ => rfl)) pe_int (nomark _)))) (fun _ _ _ _ _ => (pv 7))) (pa_cons (pv 5) pa_nil)))))
    (pss_one (ps_ret pe_bl))
    pss_nil)
  (pss_cons (ps_expr (pe_bm PySem.F.plainAttrs_list PySem.F.slot_list_append PySem.F.type_list_append mt_append (pv 5) (pa_cons pe_int pa_nil)))
  (pss_cons (ps_for PassesOwn.never rfl (pi_list (pv 3)) (pg_name (i := 7) sc__law_looks.nd rfl (Or.inl rfl))
    (pss_one (ps_if (pt_not (pt_val (C8.pe_c c__law_alike hr (by first | decide | omega) rfl (pa_cons (pe_ix (show IxR _ (rIxL K) from ix_list) (pv 6) (pv 7) (fun _ _ => rfl)) (pa_cons (C8.pe_mt c_Frames_holds hr (by first | decide | omega) (pv 0) (pa_cons (pv 7) pa_nil)) pa_nil)))))
        (pss_one (ps_ret pe_bl))
        pss_nil)))
  (pss_one (ps_ret pe_bl)))))))), ?_⟩
    have h96 := ok.k.f.l
    have hsl : 2000 < sizeLine := by rw [sizeLine_eq]; decide
    have inR : ∀ {c : Cell}, c ∈ R → c ∈ wQ C CS W ++ R := fun h => List.mem_append_right _ h
    have h16 : ∀ r ∈ W.sp, r.T.length ≤ 16 := fun r hr => (ok.k.t r.T (List.mem_map_of_mem hr)).2
    walk_at "gs"
    refine l_list (xs := W.sp.map raV) (hh.sqL (inR msl)) (fun i σ H => ∃ (x4 x5 : Option V), σ = [some (.ref W.A.F), some (.ref sl), some (.int W.S.length), some (.ref ch), x4, x5, none, none] ∧ Hd H (wQ C CS W ++ R)) ⟨_, _, rfl, hh⟩ (fun i σ H _ ⟨_, _, _, h⟩ => h.sqL (inR msl)) ?_ ?_
    · clear hh
      rintro i y σ H1 hy ⟨x4, x5, rfl, h1⟩
      obtain ⟨r, hr0, rfl⟩ : ∃ z, W.sp[i]? = some z ∧ raV z = y := by simpa [List.getElem?_map] using hy
      have hm := List.mem_of_getElem? hr0
      obtain ⟨r1, r2⟩ := wQ_row (C := C) (CS := CS) (R := R) hm
      obtain ⟨s1, s2⟩ := wQ_sp (C := C) (CS := CS) (R := R) hm
      have t16 := h16 r hm
      dsimp only [List.set]
      rw [show raV r = V.ref r.ra from rfl]
      have t1 := (ok.k.t r.T (List.mem_map_of_mem hm)).1
      have hl1 : (tbV r.T).length = r.T.length := List.length_map ..
      walk_at "gs"
      refine ⟨r.s, W.A.F, r.ta, r.T, _, rfl, t16, s1, s2, h1, fun p H2 h2 => ?_⟩
      clear h1
      walk_at "gs"
      refine u_alike (n := 2) (d := tabD r.T) (dn_tab (n := 1) h2 (.tail _ r2) t16) (dn_tab (n := 1) h2 (.head _) t16) ?_
      walk_at "gs"
      rename_i H3 h3
      refine g_app h3 (by walk_at "pk") (by rw [List.length_set, hl1]; omega) fun H4 h4 => ?_
      walk_at "gs"
      exact ⟨_, _, rfl, h4.tail⟩
    · rintro σ H1 ⟨x4, x5, rfl, h1⟩
      clear hh
      have hl1 : (W.sp.map raV).length = W.sp.length := List.length_map ..
      obtain ⟨f1, f2⟩ := wQ_fr (C := C) (CS := CS) (w := W) (R := R)
      walk_at "gs"
      refine ⟨W.A.F, W.A.hl, W.A.pl, W.S, _, rfl, h96, f1, f2, h1, fun fp H2 h2 => ?_⟩
      clear h1
      walk_at "gs"
      refine ⟨sl, W.sp, W.S, _, rfl, h96, h2, .tail _ (inR msl), fun r hr0 => ⟨(wQ_row (C := C) (CS := CS) (R := R) hr0).up fun _ h => .tail _ h, h16 r hr0⟩, ok.k.c, ok.k.e, fun hp H3 h3 => ?_⟩
      clear h2
      have hz0 := hsI_len (S := W.S)
      walk_at "gs"
      refine g_lcRF h3 rfl (by omega) (fun i D H => Hd H (lstC D ((frees W.S i).map V.int) :: lstC hp ((hsI W.S).map V.int) :: lstC fp ((frees W.S W.S.length).map V.int) :: (wQ C CS W ++ R))) (fun D H1 h1 => h1) ?_ ?_
      · intro i D H4 hi h4
        have hzi := hsI_at hi
        have hf := frees_len (S := W.S) (i := i)
        walk_at "gs"
        rename_i z hz
        obtain rfl : z = (hat W.S i : Int) := by
          rw [hzi] at hz
          exact (Option.some.inj hz).symm
        refine w_ite (fun hq => ?_) (fun hq => ?_)
        · walk_at "gs"
          rename_i H5 h5
          rw [frees_succ, if_pos (by omega), List.map_append]
          exact h5
        · rw [frees_succ, if_neg (by omega), List.append_nil]
          exact h4
      · intro D H4 h4
        have hf := frees_len (S := W.S) (i := W.S.length)
        walk_at "gs"
        refine u_alike (n := 2) (d := .list ((frees W.S W.S.length).map .int)) (Dn.lt (n := 1) h4 (by walk_at "mem") (by rw [List.length_map]; omega) Dn.ints) (Dn.lt (n := 1) h4 (by walk_at "mem") (by rw [List.length_map]; omega) Dn.ints) ?_
        walk_at "gs"
        rename_i H5 h5
        clear h3 h4
        generalize lstC fp ((frees W.S W.S.length).map V.int ++ [V.int 0]) = g1 at *
        generalize lstC D ((frees W.S W.S.length).map V.int) = g2 at *
        refine l_list (xs := cs.map fun x => V.int (x : Nat)) (h5.sqL (.tail _ (.tail _ (.tail _ (inR mch))))) (fun i σ H => ∃ (x4 x7 : Option V), σ = [some (.ref W.A.F), some (.ref sl), some (.int W.S.length), some (.ref ch), x4, some (.ref fp), some (.ref hp), x7] ∧ Hd H (g1 :: g2 :: lstC hp ((hsI W.S).map V.int) :: (wQ C CS W ++ R))) ⟨_, _, rfl, h5⟩ (fun i σ H _ ⟨_, _, _, h⟩ => h.sqL (.tail _ (.tail _ (.tail _ (inR mch))))) ?_ ?_
        · clear h5
          rintro i y σ H6 hy ⟨x4, x7, rfl, h6⟩
          obtain ⟨fr, hfr, rfl⟩ : ∃ z : Nat, cs[i]? = some z ∧ V.int (z : Int) = y := by simpa [List.getElem?_map] using hy
          have hlt := hcs fr (List.mem_of_getElem? hfr)
          have hzi := hsI_at hlt
          dsimp only [List.set]
          walk_at "gs"
          rename_i z hz
          obtain rfl : z = (hat W.S fr : Int) := by
            rw [hzi] at hz
            exact (Option.some.inj hz).symm
          have h7 : Hd H6 (g1 :: g2 :: lstC hp ((hsI W.S).map V.int) :: (frB C W.A W.S W.ps ++ (wdB W.wa W.ws ++ (spQs CS W.A.F W.sp ++ R)))) := by unfold wQ at h6; simpa only [List.append_assoc] using h6
          have h8 : Hd H6 (frL W.A.F C W.A.hl W.A.pl W.S W.ps (g1 :: g2 :: lstC hp ((hsI W.S).map V.int) :: (wdB W.wa W.ws ++ (spQs CS W.A.F W.sp ++ R)))) := by rw [frB_app]; exact Hd.sb h7 (by walk_at "sbx")
          refine ⟨W.A.F, W.A.hl, W.A.pl, fr, W.S, W.ps, _, rfl, hlt, h96, h8, ?_⟩
          walk_at "gs"
          refine u_alike (n := 2) (d := .int _) .int .int ?_
          walk_at "gs"
          exact ⟨_, _, rfl, h6⟩
        · rintro σ H6 ⟨x4, x7, rfl, h6⟩
          walk_at "gs"
          exact q H6 h6.tail.tail.tail
end
end
end K05
set_option Elab.async false
set_option linter.all false
set_option maxRecDepth 100000
set_option maxHeartbeats 4000000
namespace K05
open PySem PySem.Spec PyProof.Rows L2 Wk
local macro_rules | `(tactic| walk_at "u1") => `(tactic| fail "no more")
local macro_rules | `(tactic| walk_at "pos") => `(tactic| first | assumption | omega | decide | (simp only [Int.ofNat_eq_natCast] at *; omega))
local macro_rules | `(tactic| walk_at "sz") => `(tactic| first
  | (simp only [List.length_cons, List.length_nil]; decide)
  | exact Evl.sz_of (by omega)
  | exact Evl.sz_lt (by omega)
  | exact Evl.sz_of (by simp only [List.length_map, List.length_append, List.length_cons, List.length_nil, List.length_replicate]; omega)
  | exact Evl.sz_lt (by simp only [List.length_map, List.length_append, List.length_cons, List.length_nil, List.length_replicate]; omega))
local macro_rules | `(tactic| walk_at "cond") => `(tactic| first
  | exact Or.inr ⟨by decide, by decide⟩
  | (show (0 : Int) < _; first | decide | assumption | omega)
  | exact Or.inl ⟨by omega, by omega⟩
  | exact Or.inr ⟨by omega, by omega⟩
  | exact ⟨by decide, by decide, by decide⟩
  | exact log2_lt (by omega) (by omega)
  | exact ⟨by omega, by omega⟩)
local macro_rules | `(tactic| walk_at "ty") => `(tactic| first
  | exact ty_int | exact ty_bl | exact ty_str | exact ty_non
  | exact ty_L (by assumption) | exact ty_T (by assumption)
  | exact ty_L (SqL.of (by assumption)) | exact ty_T (SqT.of (by assumption)))
local macro_rules | `(tactic| walk_at "kit") => `(tactic| first
  | exact k_ii | exact k_ib | exact k_is | exact k_il | exact k_it
  | exact k_bb | exact k_bi | exact k_bs | exact k_bl | exact k_bt
  | exact k_ss | exact k_sb | exact k_si | exact k_sl | exact k_st
  | exact k_ll | exact k_lb | exact k_li | exact k_ls | exact k_lt
  | exact k_tt | exact k_tb | exact k_ti | exact k_ts | exact k_tl
  | exact k_nn | exact k_ni | exact k_ns | exact k_nl | exact k_nt)
local macro_rules | `(tactic| walk_at "s1") => `(tactic| first
  | with_reducible refine w_seq ?_
  | with_reducible refine w_set ?_
  | with_reducible refine w_op ?_
  | ((with_reducible refine' w_var ?h1 ?_); (case h1 => rfl))
  | with_reducible refine w_c ?_
  | with_reducible refine w_cb ?_
  | with_reducible refine w_cons ?_
  | with_reducible refine w_nil ?_
  | with_reducible refine w_I0 ?_
  | ((with_reducible refine' w_I ?c1 ?_); case c1 => walk_at "cond")
  | with_reducible refine w_ret ?_
  | with_reducible refine w_next ?_
  | with_reducible refine w_ifS ?_
  | with_reducible refine w_test ?_
  | with_reducible refine w_tB ?_
  | with_reducible refine w_k ?_
  | with_reducible refine w_eqI ?_
  | with_reducible refine w_neI ?_
  | with_reducible refine w_eqS ?_
  | with_reducible refine w_neS ?_
  | with_reducible refine w_and ?_
  | with_reducible refine w_or ?_
  | with_reducible refine w_not ?_
  | with_reducible refine w_andV ?_
  | with_reducible refine w_orV ?_
  | with_reducible refine w_notV ?_
  | with_reducible refine w_ifE ?_
  | with_reducible refine w_true ?_
  | with_reducible refine w_false ?_
  | with_reducible refine w_ntrue ?_
  | with_reducible refine w_nfalse ?_
  | with_reducible refine w_call ?_
  | with_reducible refine c_int ?_
  | with_reducible refine c_abs ?_
  | with_reducible refine c_max ?_
  | with_reducible refine c_min ?_
  | with_reducible refine w_drop ?_
  | with_reducible refine w_sfld ?_
  | with_reducible refine w_meth ?_
  | with_reducible refine w_make ?_
  | with_reducible refine w_prop ?_
  | with_reducible refine w_callK ?_
  | with_reducible refine w_callN ?_
  | with_reducible refine w_star ?_
  | with_reducible refine w_gcons ?_
  | with_reducible refine w_gname ?_
  | with_reducible refine w_gnil ?_
  | with_reducible refine w_retN ?_
  | with_reducible refine w_tup ?_
  | with_reducible refine w_lst ?_
  | with_reducible refine w_fld ?_
  | with_reducible refine w_bm ?_
  | with_reducible refine w_bm0 ?_
  | with_reducible refine w_forL ?_
  | with_reducible refine w_forT ?_
  | with_reducible refine w_forS ?_
  | with_reducible refine w_forR ?_
  | with_reducible refine w_lcR ?_
  | with_reducible refine w_lcL ?_
  | with_reducible refine w_lcT ?_
  | with_reducible refine w_isN ?_
  | with_reducible refine w_notN ?_
  | with_reducible refine w_asg ?_
  | with_reducible refine w_gsub ?_
  | ((with_reducible refine' w_aug ?h1 ?_); (case h1 => rfl))
  | with_reducible refine w_augS ?_
  | with_reducible refine w_ipI ?_
  | with_reducible refine w_un ?_
  | with_reducible refine w_U ?_
  | ((with_reducible refine' w_iteF ?f1 ?_); case f1 => (first | (intro h; cases h; done) | decide))
  | ((with_reducible refine' w_iteT ?f1 ?_); case f1 => rfl)
  | ((with_reducible refine' w_iteNF ?f1 ?_); case f1 => rfl)
  | ((with_reducible refine' w_iteNT ?f1 ?_); case f1 => (first | (intro h; cases h; done) | decide))
  | ((with_reducible refine' c_isi ?t1 ?k1 ?_); (case t1 => walk_at "ty"); (case k1 => walk_at "kit"))
  | ((with_reducible refine' w_eq ?e1 ?_); case e1 => rfl)
  | ((with_reducible refine' w_ne ?e1 ?_); case e1 => rfl)
  | walk_at "u1")
local macro_rules | `(tactic| walk_at "s") => `(tactic| repeat walk_at "s1")
local macro_rules | `(tactic| walk_at "mem") => `(tactic| first | with_reducible exact List.mem_cons_self .. | ((with_reducible refine' List.mem_cons_of_mem _ ?q); (case q => walk_at "mem")) | assumption | ((with_reducible refine' List.mem_append_right _ ?q); (case q => walk_at "mem")) | (exact List.mem_append_left _ (by assumption)))
local macro_rules | `(tactic| walk_at "pk") => `(tactic| first | with_reducible exact Pk.here | ((with_reducible refine' Pk.there ?q); (case q => walk_at "pk")) | ((with_reducible refine' Pk.app ?q); (case q => walk_at "pk")))
local macro_rules | `(tactic| walk_at "pkb") => `(tactic| first | with_reducible exact PkB.here | ((with_reducible refine' PkB.there ?q); (case q => walk_at "pkb")) | ((with_reducible refine' PkB.app ?q); (case q => walk_at "pkb")))
local macro_rules | `(tactic| walk_at "spl") => `(tactic| first | with_reducible exact Spl.nil | ((with_reducible refine' Spl.cons ?h ?t); (case h => walk_at "pk"); (case t => walk_at "spl")) | ((with_reducible refine' Spl.blk ?h ?t); (case h => walk_at "pkb"); (case t => walk_at "spl")))
local macro_rules | `(tactic| walk_at "sbx") => `(tactic| first | with_reducible exact Sb.refl | with_reducible exact Sb.nil | with_reducible exact Sb.left | ((with_reducible refine' Sb.cons ?h ?t); (case h => walk_at "pk"); (case t => walk_at "sbx")) | ((with_reducible refine' Sb.blk ?h ?t); (case h => walk_at "pkb"); (case t => walk_at "sbx")) | ((with_reducible refine' Sb.drop ?q); (case q => walk_at "sbx")) | ((with_reducible refine' Sb.right ?q); (case q => walk_at "sbx")))
local macro_rules | `(tactic| walk_at "hd") => `(tactic| first | assumption | exact Hd.sb (by assumption) (by walk_at "sbx"))
local macro_rules | `(tactic| walk_at "sq") => `(tactic| first
  | assumption
  | exact Hd.sqL (by assumption) (by walk_at "mem")
  | exact Hd.sqT (by assumption) (by walk_at "mem")
  | exact Hd.sqF (by assumption) (by walk_at "mem")
  | (refine .inl ?_; walk_at "sq")
  | (refine .inr ?_; walk_at "sq"))
local macro_rules | `(tactic| walk_at "at") => `(tactic| first | rfl | assumption | exact atI_nat (by assumption))
local macro_rules | `(tactic| walk_at "dn1") => `(tactic| first
  | exact Dn.int | exact Dn.str | exact Dn.non | exact Dn.bl | assumption
  | ((refine' Dn.tp ?a1 ?m1 ?l1 ?p1); (case a1 => assumption); (case m1 => walk_at "mem"); (case l1 => (simp only [List.length_cons, List.length_nil]; omega)); (case p1 => walk_at "dns"))
  | ((refine' Dn.lt ?a1 ?m1 ?l1 ?p1); (case a1 => assumption); (case m1 => walk_at "mem"); (case l1 => (simp only [List.length_cons, List.length_nil]; omega)); (case p1 => walk_at "dns")))
local macro_rules | `(tactic| walk_at "dns") => `(tactic| first | exact Paired.nil | exact Dn.ints | ((refine' Paired.cons ?a1 ?b1); (case a1 => walk_at "dn1"); (case b1 => walk_at "dns")))
local macro_rules | `(tactic| walk_at "g1") => `(tactic| first
  | ((with_reducible refine' g_ixI ?h1 ?h2 ?h3 ?_); (case h1 => assumption); (case h2 => walk_at "mem"); (case h3 => omega); intro z hz)
  | ((with_reducible refine' g_ixIT ?h1 ?h2 ?h3 ?_); (case h1 => assumption); (case h2 => walk_at "mem"); (case h3 => omega); intro z hz)
  | ((with_reducible refine' g_setI ?h1 ?h2 ?h3 ?_); (case h1 => assumption); (case h2 => walk_at "pk"); (case h3 => omega); intro H2 hh2)
  | ((with_reducible refine' w_ixL ?h1 ?h2 ?_); (case h1 => walk_at "sq"); (case h2 => walk_at "at"))
  | ((with_reducible refine' w_ixT ?h1 ?h2 ?_); (case h1 => walk_at "sq"); (case h2 => walk_at "at"))
  | ((with_reducible refine' w_ixAny ?h1 ?h2 ?_); (case h1 => walk_at "sq"); (case h2 => walk_at "at"))
  | ((with_reducible refine' c_lenA ?h1 ?_); (case h1 => walk_at "sq"))
  | ((with_reducible refine' c_isi ?t1 ?k1 ?_); (case t1 => first | exact ty_T (by walk_at "sq") | exact ty_L (by walk_at "sq")); (case k1 => walk_at "kit"))
  | ((with_reducible refine' g_lst ?h1 ?h2 ?_); (case h1 => assumption); (case h2 => walk_at "sz"); intro p H2 hh2)
  | ((with_reducible refine' g_tup ?h1 ?h2 ?_); (case h1 => assumption); (case h2 => walk_at "sz"); intro p H2 hh2)
  | ((with_reducible refine' g_dict ?h1 ?_); (case h1 => assumption); intro p H2 hh2)
  | ((with_reducible refine' g_listL ?h1 ?h2 ?_); (case h1 => assumption); (case h2 => walk_at "sq"); intro p H2 hh2)
  | ((with_reducible refine' g_listT ?h1 ?h2 ?_); (case h1 => assumption); (case h2 => walk_at "sq"); intro p H2 hh2)
  | ((with_reducible refine' g_tupL ?h1 ?h2 ?_); (case h1 => assumption); (case h2 => walk_at "sq"); intro p H2 hh2)
  | ((with_reducible refine' g_set ?h1 ?h2 ?h3 ?_); (case h1 => assumption); (case h2 => walk_at "pk"); (case h3 => first | rfl | assumption | exact Evl.ixN_nat (by first | omega | (simp only [List.length_cons, List.length_nil]; omega))); intro H2 hh2)
  | ((with_reducible refine' g_kbm ?h1 ?h2 ?_); (case h1 => assumption); (case h2 => walk_at "mem"))
  | ((with_reducible refine' g_kbm0 ?h1 ?h2 ?_); (case h1 => assumption); (case h2 => walk_at "mem"))
  | ((with_reducible refine' g_app ?h1 ?h2 ?h3 ?_); (case h1 => assumption); (case h2 => walk_at "pk"); (case h3 => walk_at "sz"); intro H2 hh2)
  | ((with_reducible refine' g_kapp ?h1 ?h2 ?h3 ?_); (case h1 => assumption); (case h2 => walk_at "pk"); (case h3 => walk_at "sz"); intro H2 hh2)
  | ((with_reducible refine' g_fld ?h1 ?h2 ?h3 ?h4 ?h5 ?_); (case h1 => assumption); (case h2 => walk_at "mem"); (case h3 => assumption); (case h4 => assumption); (case h5 => rfl))
  | ((with_reducible refine' g_sfld ?h1 ?h2 ?h3 ?h4 ?h5 ?_); (case h1 => assumption); (case h2 => walk_at "pk"); (case h3 => assumption); (case h4 => assumption); (case h5 => decide); intro H2 hh2)
  | ((with_reducible refine' g_meth ?h1 ?h2 ?h3 ?_); (case h1 => assumption); (case h2 => walk_at "mem"); (case h3 => rfl))
  | ((with_reducible refine' g_prop ?h1 ?h2 ?_); (case h1 => assumption); (case h2 => walk_at "mem"))
  | ((with_reducible refine' g_make ?h1 ?_); (case h1 => assumption); intro x H2 hh2)
  | ((with_reducible refine' g_cat ?h1 ?h2 ?h3 ?h4 ?_); (case h1 => assumption); (case h2 => walk_at "mem"); (case h3 => walk_at "mem"); (case h4 => walk_at "sz"); intro p H2 hh2)
  | ((with_reducible refine' g_inT ?h1 ?h2 ?h3 ?h4 ?h5 ?_); (case h1 => assumption); (case h2 => walk_at "mem"); (case h3 => rfl); (case h4 => rfl); (case h5 => rfl)))
local macro_rules | `(tactic| walk_at "gs") => `(tactic| repeat first | walk_at "s1" | walk_at "g1")
local macro_rules | `(tactic| walk_at "ite") => `(tactic| first
  | ((with_reducible refine' w_iteT ?h1 ?_); (case h1 => omega))
  | ((with_reducible refine' w_iteF ?h1 ?_); (case h1 => omega))
  | (with_reducible refine w_ite ?_ ?_ <;> intro hq)
  | ((with_reducible refine' w_iteNT ?h1 ?_); (case h1 => omega))
  | ((with_reducible refine' w_iteNF ?h1 ?_); (case h1 => omega))
  | (with_reducible refine w_iteN ?_ ?_ <;> intro hq))
local macro_rules | `(tactic| walk_at "go") => `(tactic| repeat' first | walk_at "s1" | walk_at "g1" | walk_at "ite")
local macro_rules | `(tactic| walk_at "g1") => `(tactic| first
  | ((with_reducible refine' g_take1 ?h1 ?h2 ?h3 ?h4 ?_); (case h1 => assumption); (case h2 => walk_at "spl"); (case h3 => omega); (case h4 => omega); intro k H2 hk1 hh2)
  | ((with_reducible refine' g_take ?h1 ?h2 ?h4 ?_); (case h1 => assumption); (case h2 => walk_at "spl"); (case h4 => omega); intro k H2 hk1 hh2)
  | ((with_reducible refine' g_betweenN ?h1 ?h2 ?h5 ?h3 ?h4 ?_); (case h1 => assumption); (case h2 => walk_at "spl"); (case h5 => omega); (case h3 => omega); (case h4 => omega); intro k H2 hk1 hk2 hh2)
  | ((with_reducible refine' g_between ?h1 ?h2 ?h3 ?h4 ?_); (case h1 => assumption); (case h2 => walk_at "spl"); (case h3 => omega); (case h4 => omega); intro k H2 hk1 hk2 hh2)
  | ((with_reducible refine' g_size ?h1 ?h2 ?h3 ?h4 ?_); (case h1 => assumption); (case h2 => walk_at "spl"); (case h3 => omega); (case h4 => omega); intro k H2 hk1 hh2)
  | ((with_reducible refine' g_word ?h1 ?h2 ?_); (case h1 => assumption); (case h2 => walk_at "spl"); intro k H2 hk1 hh2))
section
variable {P : Program} {w : World} {K : PySem.W.Frag} {mg : Str → Option Value} {base : Heap} {aREG aOPS : Addr}
theorem flat_get : ∀ {L : List (List Int)} {p o : Nat}, (∀ l ∈ L, l.length = 8) → p < L.length → o < 8 → L.flatten.getD (8 * p + o) 0 = (L.getD p []).getD o 0
  | [], _, _, _, h, _ => absurd h (Nat.not_lt_zero _)
  | l :: L, 0, o, h, _, ho => by
    have := h l (.head _)
    rw [Nat.mul_zero, Nat.zero_add, List.flatten_cons, List.getD_eq_getElem?_getD, List.getElem?_append_left (by omega)]
    show _ = l.getD o 0
    rw [List.getD_eq_getElem?_getD]
  | l :: L, p + 1, o, h, hp, ho => by
    have hl := h l (.head _)
    have := flat_get (L := L) (p := p) (o := o) (fun l hl => h l (.tail _ hl)) (Nat.lt_of_succ_lt_succ hp) ho
    rw [List.flatten_cons, List.getD_eq_getElem?_getD, List.getElem?_append_right (by omega), hl, show 8 * (p + 1) + o - 8 = 8 * p + o by omega, ← List.getD_eq_getElem?_getD, this]
    rfl
theorem val_at {S : St1} {ps : List Pg} {T : Tb} {a : Nat} (k : FOk S ps) (t : TOk S T) (ha : a < 8 * T.length) : (valS S T).getD a 0 = valAt S T a := by
  have e8 : 8 * (a / 8) + a % 8 = a := by omega
  have hp : a / 8 < T.length := by omega
  have hl8 : ∀ l ∈ T.map (pgW S), l.length = 8 := fun l hl => by
    obtain ⟨o, ho, rfl⟩ := List.mem_map.mp hl
    exact (pgW_len k t ho).1
  have := flat_get (L := T.map (pgW S)) (p := a / 8) (o := a % 8) hl8 (by rw [List.length_map]; exact hp) (by omega)
  rw [e8] at this
  unfold valS valAt
  rw [this]
  congr 1
  rw [List.getD_eq_getElem?_getD, List.getD_eq_getElem?_getD, List.getElem?_map, List.getElem?_eq_getElem hp]
  rfl
theorem own_k {S : St1} {ps : List Pg} {T : Tb} {p : Nat} (k : FOk S ps) (t : TOk S T) (rm : Room1 S T p) : ∃ q, FOk (ownS S T p).2.1 q := by
  unfold ownS
  cases e : T.getD p none with
  | none =>
    obtain ⟨i, hi⟩ := rm.resolve_left fun ⟨f, e2, _⟩ => by rw [e] at e2; cases e2
    obtain ⟨hil, _, _⟩ := lowest_some hi
    simp only [hi, Option.getD_some]
    exact ⟨_, k.set hil (fun x hx => by rw [List.eq_of_mem_replicate hx]; omega) (PgOk.page (a := 0) k.pg hil (List.length_replicate ..))⟩
  | some f =>
    obtain ⟨hf, h0⟩ := t.e f (tb_mem e)
    dsimp only
    by_cases h1 : hat S f = 1
    · rw [if_pos h1]; exact ⟨ps, k⟩
    · rw [if_neg h1]
      obtain ⟨i, hi⟩ := rm.resolve_left fun ⟨f', e2, e3⟩ => by rw [e] at e2; cases e2; exact h1 e3
      obtain ⟨hil, hi0, _⟩ := lowest_some hi
      have hne : f ≠ i := fun z => by rw [← z] at hi0; omega
      simp only [hi, Option.getD_some]
      have o2 := PgOk.page (h := 1) (a := (0 : Addr)) k.pg hil (k.pg.2 f hf h0).1
      have k2 := k.set hil (k.w f hf h0) o2
      have ha : hat (S.set i (1, wat S f)) f = hat S f := by rw [hat_set hil, if_neg hne]
      have wa : wat (S.set i (1, wat S f)) f = wat S f := by rw [wat_set hil, if_neg hne]
      have hf2 : f < (S.set i (1, wat S f)).length := by rw [List.length_set]; exact hf
      have o3 := PgOk.hold (h := hat S f - 1) o2 hf2 (by rw [ha]; exact h0)
      rw [wa] at o3
      exact ⟨_, k2.set hf2 (k.w f hf h0) o3⟩
theorem wr_len {S : St1} {ps : List Pg} {T : Tb} {a : Nat} {x : Int} (k : FOk S ps) (t : TOk S T) (ha : a < 8 * T.length) (rm : Room1 S T (a / 8)) : (wrS S T a x).1.length = S.length ∧ (wrS S T a x).2.length = T.length := by
  obtain ⟨o1, o2, o3, o4, o5, o6⟩ := own_ok k t (show a / 8 < T.length by omega) rm
  unfold wrS
  exact ⟨by rw [List.length_set]; exact o3, o4⟩
end
end K05
set_option Elab.async false
set_option linter.all false
set_option maxRecDepth 100000
set_option maxHeartbeats 4000000
namespace K05
open PySem PySem.Spec PyProof.Rows L2 Wk
local macro_rules | `(tactic| walk_at "u1") => `(tactic| fail "no more")
local macro_rules | `(tactic| walk_at "pos") => `(tactic| first | assumption | omega | decide | (simp only [Int.ofNat_eq_natCast] at *; omega))
local macro_rules | `(tactic| walk_at "sz") => `(tactic| first
  | (simp only [List.length_cons, List.length_nil]; decide)
  | exact Evl.sz_of (by omega)
  | exact Evl.sz_lt (by omega)
  | exact Evl.sz_of (by simp only [List.length_map, List.length_append, List.length_cons, List.length_nil, List.length_replicate]; omega)
  | exact Evl.sz_lt (by simp only [List.length_map, List.length_append, List.length_cons, List.length_nil, List.length_replicate]; omega))
local macro_rules | `(tactic| walk_at "cond") => `(tactic| first
  | exact Or.inr ⟨by decide, by decide⟩
  | (show (0 : Int) < _; first | decide | assumption | omega)
  | exact Or.inl ⟨by omega, by omega⟩
  | exact Or.inr ⟨by omega, by omega⟩
  | exact ⟨by decide, by decide, by decide⟩
  | exact log2_lt (by omega) (by omega)
  | exact ⟨by omega, by omega⟩)
local macro_rules | `(tactic| walk_at "ty") => `(tactic| first
  | exact ty_int | exact ty_bl | exact ty_str | exact ty_non
  | exact ty_L (by assumption) | exact ty_T (by assumption)
  | exact ty_L (SqL.of (by assumption)) | exact ty_T (SqT.of (by assumption)))
local macro_rules | `(tactic| walk_at "kit") => `(tactic| first
  | exact k_ii | exact k_ib | exact k_is | exact k_il | exact k_it
  | exact k_bb | exact k_bi | exact k_bs | exact k_bl | exact k_bt
  | exact k_ss | exact k_sb | exact k_si | exact k_sl | exact k_st
  | exact k_ll | exact k_lb | exact k_li | exact k_ls | exact k_lt
  | exact k_tt | exact k_tb | exact k_ti | exact k_ts | exact k_tl
  | exact k_nn | exact k_ni | exact k_ns | exact k_nl | exact k_nt)
local macro_rules | `(tactic| walk_at "s1") => `(tactic| first
  | with_reducible refine w_seq ?_
  | with_reducible refine w_set ?_
  | with_reducible refine w_op ?_
  | ((with_reducible refine' w_var ?h1 ?_); (case h1 => rfl))
  | with_reducible refine w_c ?_
  | with_reducible refine w_cb ?_
  | with_reducible refine w_cons ?_
  | with_reducible refine w_nil ?_
  | with_reducible refine w_I0 ?_
  | ((with_reducible refine' w_I ?c1 ?_); case c1 => walk_at "cond")
  | with_reducible refine w_ret ?_
  | with_reducible refine w_next ?_
  | with_reducible refine w_ifS ?_
  | with_reducible refine w_test ?_
  | with_reducible refine w_tB ?_
  | with_reducible refine w_k ?_
  | with_reducible refine w_eqI ?_
  | with_reducible refine w_neI ?_
  | with_reducible refine w_eqS ?_
  | with_reducible refine w_neS ?_
  | with_reducible refine w_and ?_
  | with_reducible refine w_or ?_
  | with_reducible refine w_not ?_
  | with_reducible refine w_andV ?_
  | with_reducible refine w_orV ?_
  | with_reducible refine w_notV ?_
  | with_reducible refine w_ifE ?_
  | with_reducible refine w_true ?_
  | with_reducible refine w_false ?_
  | with_reducible refine w_ntrue ?_
  | with_reducible refine w_nfalse ?_
  | with_reducible refine w_call ?_
  | with_reducible refine c_int ?_
  | with_reducible refine c_abs ?_
  | with_reducible refine c_max ?_
  | with_reducible refine c_min ?_
  | with_reducible refine w_drop ?_
  | with_reducible refine w_sfld ?_
  | with_reducible refine w_meth ?_
  | with_reducible refine w_make ?_
  | with_reducible refine w_prop ?_
  | with_reducible refine w_callK ?_
  | with_reducible refine w_callN ?_
  | with_reducible refine w_star ?_
  | with_reducible refine w_gcons ?_
  | with_reducible refine w_gname ?_
  | with_reducible refine w_gnil ?_
  | with_reducible refine w_retN ?_
  | with_reducible refine w_tup ?_
  | with_reducible refine w_lst ?_
  | with_reducible refine w_fld ?_
  | with_reducible refine w_bm ?_
  | with_reducible refine w_bm0 ?_
  | with_reducible refine w_forL ?_
  | with_reducible refine w_forT ?_
  | with_reducible refine w_forS ?_
  | with_reducible refine w_forR ?_
  | with_reducible refine w_lcR ?_
  | with_reducible refine w_lcL ?_
  | with_reducible refine w_lcT ?_
  | with_reducible refine w_isN ?_
  | with_reducible refine w_notN ?_
  | with_reducible refine w_asg ?_
  | with_reducible refine w_gsub ?_
  | ((with_reducible refine' w_aug ?h1 ?_); (case h1 => rfl))
  | with_reducible refine w_augS ?_
  | with_reducible refine w_ipI ?_
  | with_reducible refine w_un ?_
  | with_reducible refine w_U ?_
  | ((with_reducible refine' w_iteF ?f1 ?_); case f1 => (first | (intro h; cases h; done) | decide))
  | ((with_reducible refine' w_iteT ?f1 ?_); case f1 => rfl)
  | ((with_reducible refine' w_iteNF ?f1 ?_); case f1 => rfl)
  | ((with_reducible refine' w_iteNT ?f1 ?_); case f1 => (first | (intro h; cases h; done) | decide))
  | ((with_reducible refine' c_isi ?t1 ?k1 ?_); (case t1 => walk_at "ty"); (case k1 => walk_at "kit"))
  | ((with_reducible refine' w_eq ?e1 ?_); case e1 => rfl)
  | ((with_reducible refine' w_ne ?e1 ?_); case e1 => rfl)
  | walk_at "u1")
local macro_rules | `(tactic| walk_at "s") => `(tactic| repeat walk_at "s1")
local macro_rules | `(tactic| walk_at "mem") => `(tactic| first | with_reducible exact List.mem_cons_self .. | ((with_reducible refine' List.mem_cons_of_mem _ ?q); (case q => walk_at "mem")) | assumption | ((with_reducible refine' List.mem_append_right _ ?q); (case q => walk_at "mem")) | (exact List.mem_append_left _ (by assumption)))
local macro_rules | `(tactic| walk_at "pk") => `(tactic| first | with_reducible exact Pk.here | ((with_reducible refine' Pk.there ?q); (case q => walk_at "pk")) | ((with_reducible refine' Pk.app ?q); (case q => walk_at "pk")))
local macro_rules | `(tactic| walk_at "pkb") => `(tactic| first | with_reducible exact PkB.here | ((with_reducible refine' PkB.there ?q); (case q => walk_at "pkb")) | ((with_reducible refine' PkB.app ?q); (case q => walk_at "pkb")))
local macro_rules | `(tactic| walk_at "spl") => `(tactic| first | with_reducible exact Spl.nil | ((with_reducible refine' Spl.cons ?h ?t); (case h => walk_at "pk"); (case t => walk_at "spl")) | ((with_reducible refine' Spl.blk ?h ?t); (case h => walk_at "pkb"); (case t => walk_at "spl")))
local macro_rules | `(tactic| walk_at "sbx") => `(tactic| first | with_reducible exact Sb.refl | with_reducible exact Sb.nil | with_reducible exact Sb.left | ((with_reducible refine' Sb.cons ?h ?t); (case h => walk_at "pk"); (case t => walk_at "sbx")) | ((with_reducible refine' Sb.blk ?h ?t); (case h => walk_at "pkb"); (case t => walk_at "sbx")) | ((with_reducible refine' Sb.drop ?q); (case q => walk_at "sbx")) | ((with_reducible refine' Sb.right ?q); (case q => walk_at "sbx")))
local macro_rules | `(tactic| walk_at "hd") => `(tactic| first | assumption | exact Hd.sb (by assumption) (by walk_at "sbx"))
local macro_rules | `(tactic| walk_at "sq") => `(tactic| first
  | assumption
  | exact Hd.sqL (by assumption) (by walk_at "mem")
  | exact Hd.sqT (by assumption) (by walk_at "mem")
  | exact Hd.sqF (by assumption) (by walk_at "mem")
  | (refine .inl ?_; walk_at "sq")
  | (refine .inr ?_; walk_at "sq"))
local macro_rules | `(tactic| walk_at "at") => `(tactic| first | rfl | assumption | exact atI_nat (by assumption))
local macro_rules | `(tactic| walk_at "dn1") => `(tactic| first
  | exact Dn.int | exact Dn.str | exact Dn.non | exact Dn.bl | assumption
  | ((refine' Dn.tp ?a1 ?m1 ?l1 ?p1); (case a1 => assumption); (case m1 => walk_at "mem"); (case l1 => (simp only [List.length_cons, List.length_nil]; omega)); (case p1 => walk_at "dns"))
  | ((refine' Dn.lt ?a1 ?m1 ?l1 ?p1); (case a1 => assumption); (case m1 => walk_at "mem"); (case l1 => (simp only [List.length_cons, List.length_nil]; omega)); (case p1 => walk_at "dns")))
local macro_rules | `(tactic| walk_at "dns") => `(tactic| first | exact Paired.nil | exact Dn.ints | ((refine' Paired.cons ?a1 ?b1); (case a1 => walk_at "dn1"); (case b1 => walk_at "dns")))
local macro_rules | `(tactic| walk_at "g1") => `(tactic| first
  | ((with_reducible refine' g_ixI ?h1 ?h2 ?h3 ?_); (case h1 => assumption); (case h2 => walk_at "mem"); (case h3 => omega); intro z hz)
  | ((with_reducible refine' g_ixIT ?h1 ?h2 ?h3 ?_); (case h1 => assumption); (case h2 => walk_at "mem"); (case h3 => omega); intro z hz)
  | ((with_reducible refine' g_setI ?h1 ?h2 ?h3 ?_); (case h1 => assumption); (case h2 => walk_at "pk"); (case h3 => omega); intro H2 hh2)
  | ((with_reducible refine' w_ixL ?h1 ?h2 ?_); (case h1 => walk_at "sq"); (case h2 => walk_at "at"))
  | ((with_reducible refine' w_ixT ?h1 ?h2 ?_); (case h1 => walk_at "sq"); (case h2 => walk_at "at"))
  | ((with_reducible refine' w_ixAny ?h1 ?h2 ?_); (case h1 => walk_at "sq"); (case h2 => walk_at "at"))
  | ((with_reducible refine' c_lenA ?h1 ?_); (case h1 => walk_at "sq"))
  | ((with_reducible refine' c_isi ?t1 ?k1 ?_); (case t1 => first | exact ty_T (by walk_at "sq") | exact ty_L (by walk_at "sq")); (case k1 => walk_at "kit"))
  | ((with_reducible refine' g_lst ?h1 ?h2 ?_); (case h1 => assumption); (case h2 => walk_at "sz"); intro p H2 hh2)
  | ((with_reducible refine' g_tup ?h1 ?h2 ?_); (case h1 => assumption); (case h2 => walk_at "sz"); intro p H2 hh2)
  | ((with_reducible refine' g_dict ?h1 ?_); (case h1 => assumption); intro p H2 hh2)
  | ((with_reducible refine' g_listL ?h1 ?h2 ?_); (case h1 => assumption); (case h2 => walk_at "sq"); intro p H2 hh2)
  | ((with_reducible refine' g_listT ?h1 ?h2 ?_); (case h1 => assumption); (case h2 => walk_at "sq"); intro p H2 hh2)
  | ((with_reducible refine' g_tupL ?h1 ?h2 ?_); (case h1 => assumption); (case h2 => walk_at "sq"); intro p H2 hh2)
  | ((with_reducible refine' g_set ?h1 ?h2 ?h3 ?_); (case h1 => assumption); (case h2 => walk_at "pk"); (case h3 => first | rfl | assumption | exact Evl.ixN_nat (by first | omega | (simp only [List.length_cons, List.length_nil]; omega))); intro H2 hh2)
  | ((with_reducible refine' g_kbm ?h1 ?h2 ?_); (case h1 => assumption); (case h2 => walk_at "mem"))
  | ((with_reducible refine' g_kbm0 ?h1 ?h2 ?_); (case h1 => assumption); (case h2 => walk_at "mem"))
  | ((with_reducible refine' g_app ?h1 ?h2 ?h3 ?_); (case h1 => assumption); (case h2 => walk_at "pk"); (case h3 => walk_at "sz"); intro H2 hh2)
  | ((with_reducible refine' g_kapp ?h1 ?h2 ?h3 ?_); (case h1 => assumption); (case h2 => walk_at "pk"); (case h3 => walk_at "sz"); intro H2 hh2)
  | ((with_reducible refine' g_fld ?h1 ?h2 ?h3 ?h4 ?h5 ?_); (case h1 => assumption); (case h2 => walk_at "mem"); (case h3 => assumption); (case h4 => assumption); (case h5 => rfl))
  | ((with_reducible refine' g_sfld ?h1 ?h2 ?h3 ?h4 ?h5 ?_); (case h1 => assumption); (case h2 => walk_at "pk"); (case h3 => assumption); (case h4 => assumption); (case h5 => decide); intro H2 hh2)
  | ((with_reducible refine' g_meth ?h1 ?h2 ?h3 ?_); (case h1 => assumption); (case h2 => walk_at "mem"); (case h3 => rfl))
  | ((with_reducible refine' g_prop ?h1 ?h2 ?_); (case h1 => assumption); (case h2 => walk_at "mem"))
  | ((with_reducible refine' g_make ?h1 ?_); (case h1 => assumption); intro x H2 hh2)
  | ((with_reducible refine' g_cat ?h1 ?h2 ?h3 ?h4 ?_); (case h1 => assumption); (case h2 => walk_at "mem"); (case h3 => walk_at "mem"); (case h4 => walk_at "sz"); intro p H2 hh2)
  | ((with_reducible refine' g_inT ?h1 ?h2 ?h3 ?h4 ?h5 ?_); (case h1 => assumption); (case h2 => walk_at "mem"); (case h3 => rfl); (case h4 => rfl); (case h5 => rfl)))
local macro_rules | `(tactic| walk_at "gs") => `(tactic| repeat first | walk_at "s1" | walk_at "g1")
local macro_rules | `(tactic| walk_at "ite") => `(tactic| first
  | ((with_reducible refine' w_iteT ?h1 ?_); (case h1 => omega))
  | ((with_reducible refine' w_iteF ?h1 ?_); (case h1 => omega))
  | (with_reducible refine w_ite ?_ ?_ <;> intro hq)
  | ((with_reducible refine' w_iteNT ?h1 ?_); (case h1 => omega))
  | ((with_reducible refine' w_iteNF ?h1 ?_); (case h1 => omega))
  | (with_reducible refine w_iteN ?_ ?_ <;> intro hq))
local macro_rules | `(tactic| walk_at "go") => `(tactic| repeat' first | walk_at "s1" | walk_at "g1" | walk_at "ite")
local macro_rules | `(tactic| walk_at "g1") => `(tactic| first
  | ((with_reducible refine' g_take1 ?h1 ?h2 ?h3 ?h4 ?_); (case h1 => assumption); (case h2 => walk_at "spl"); (case h3 => omega); (case h4 => omega); intro k H2 hk1 hh2)
  | ((with_reducible refine' g_take ?h1 ?h2 ?h4 ?_); (case h1 => assumption); (case h2 => walk_at "spl"); (case h4 => omega); intro k H2 hk1 hh2)
  | ((with_reducible refine' g_betweenN ?h1 ?h2 ?h5 ?h3 ?h4 ?_); (case h1 => assumption); (case h2 => walk_at "spl"); (case h5 => omega); (case h3 => omega); (case h4 => omega); intro k H2 hk1 hk2 hh2)
  | ((with_reducible refine' g_between ?h1 ?h2 ?h3 ?h4 ?_); (case h1 => assumption); (case h2 => walk_at "spl"); (case h3 => omega); (case h4 => omega); intro k H2 hk1 hk2 hh2)
  | ((with_reducible refine' g_size ?h1 ?h2 ?h3 ?h4 ?_); (case h1 => assumption); (case h2 => walk_at "spl"); (case h3 => omega); (case h4 => omega); intro k H2 hk1 hh2)
  | ((with_reducible refine' g_word ?h1 ?h2 ?_); (case h1 => assumption); (case h2 => walk_at "spl"); intro k H2 hk1 hh2))
section
variable {P : Program} {w : World} {K : PySem.W.Frag} {mg : Str → Option Value} {base : Heap} {aREG aOPS : Addr}
theorem hd_newT {H H' : Hp} {L : List Cell} {t : Addr} {xs : List V} (h : Hd H L) (u : Upt [] H H') (n : H t = none) (e : H' t = some (.tup xs)) : Hd H' (tupC t xs :: L) :=
  hd_cons1 (c := tupC t xs) (h.upt0 u) e rfl fun d hd z => by
    obtain ⟨o, ho, _⟩ := h.at_ d hd
    rw [show d.1 = t from z, n] at ho
    cases ho
section
variable {C CS CU W fU fE tP : Addr} {fdE : FuncData}
def sp_lpage (C : Addr) : Sp := fun vs H Q _ => ∃ (A : FA) (f : Nat) (S : St1) (ps : List Pg) (R : List Cell), vs = [.ref A.F, .int f] ∧ f < S.length ∧ S.length ≤ 96 ∧ PgOk S ps ∧ Hd H (frB C A S ps ++ R) ∧
  (0 < hat S f → ∀ t l H', Hd H' (tupC t [.non, .ref l] :: lstC l ((wat S f).map V.int) :: (frB C A S ps ++ R)) → Q (.ref t) H') ∧ (hat S f = 0 → ∀ t e H', Hd H' (tupC t [.ref e, .non] :: tupC e [.str "Unknown", .int f] :: (frB C A S ps ++ R)) → Q (.ref t) H')
theorem c_lpage (T : Txt K mg aREG aOPS) (RU : ErrX K mg "Unknown" CU W fU) (d : DefAt K mg "_law_page" s__law_page) (cx_page : MetN P w K mg base 5 C "page" (sp_pageX C CU) ["frame"] (fun vs zs => vs ++ zs))
    (F_err : FnE P w K mg base C8.CX0 1 fE fdE ["e"] (sp_err CU)) (F_errM : mg "_law_error" = some (.ref fE)) (F_errK : PySem.W.keepIn K (.ref fE) = true) (F_errB : Binds K fdE ["e"] []) : C8.Cal P w K mg base 6 "_law_page" (sp_lpage C) [] := by
  refine mk d sc__law_page (fun _ _ _ _ _ _ us hl => match us, hl with | [_, _], _ => rfl) (fun vs H Q E h => ?_) (fun f cdv A_ outer s H vs Q E hr h => ?_)
  · obtain ⟨A, fr, S, ps, R, rfl, _⟩ := h
    rfl
  · obtain ⟨A, fr, S, ps, R, rfl, hf, h96, pk, hh, q1, q2⟩ := h
    refine ⟨_, (pss_one (L2N.ps_try_as rfl rfl sc__law_page.nd (i := 2) rfl rfl ⟨rfl, by decide, .inl RU.g_W⟩ takes0N (fun W pn xe tk pw => (pss_one (ps_ret (pe_tup (pa_cons pe_non (pa_cons (Wk.pe_mtN cx_page hr (by first | decide | omega) tk (pv 0) (pa_cons (pv 1) pa_nil)) pa_nil)))))) (fun a oe cls d pn hz hf => pss_one (ps_ret (pe_tup (pa_cons (pe_callE (E := fun _ => C8.E0) (imp_err hz hf) F_err (rH hr) (hot_err hz hf) (List.mem_cons_self ..) rfl F_errM F_errK F_errB (fun _ _ _ _ _ _ _ h => h.elim) (pa_cons (pv 2) pa_nil)) (pa_cons pe_non pa_nil))))))), ?_⟩
    have hh2 : Hd H (frL A.F C A.hl A.pl S ps R) := by rw [frB_app]; exact hh
    obtain ⟨dx, hi⟩ := hh2.ins (List.mem_cons_self ..)
    walk_at "gs"
    refine w_var rfl ⟨A.F, dx, _, rfl, hi, rfl, ?_⟩
    walk_at "gs"
    refine ⟨A.F, A.hl, A.pl, fr, S, ps, R, rfl, hf, h96, pk, hh2, fun hz => fun H1 d h1 => ⟨true, RU.exW, fun _ ea hea => ?_, fun z => nomatch z⟩, fun hz p H1 h1 => ?_⟩
    · rw [frB_app] at h1
      walk_at "gs"
      refine w_callS ?_
      walk_at "gs"
      obtain ⟨o, eo, rfl⟩ := h1.at_ _ (List.mem_cons_self ..)
      refine ⟨d, .int fr, rfl, rfl, rfl, eo, fun t2 H2 u ht et => ?_⟩
      have h2 := hd_newT h1 u ht et
      walk_at "gs"
      rename_i r H3 h3
      exact q2 hz r t2 H3 (Hd.sb h3 (by walk_at "sbx"))
    · rw [frB_app] at h1
      walk_at "gs"
      rename_i r H3 h3
      exact q1 hz r p H3 h3
end
theorem valS_map {S : St1} {ps : List Pg} {T : Tb} (k : FOk S ps) (t : TOk S T) : (List.range (8 * T.length)).map (valAt S T) = valS S T := by
  have hl := (valS_len k t (L := T) fun o h => h).1
  refine List.ext_getElem? fun j => ?_
  by_cases h : j < 8 * T.length
  · rw [List.getElem?_map, List.getElem?_range h]
    have := val_at k t h
    rw [List.getD_eq_getElem?_getD, List.getElem?_eq_getElem (by omega)] at this
    rw [List.getElem?_eq_getElem (by omega)]
    exact congrArg some this.symm
  · rw [List.getElem?_eq_none (by rw [List.length_map, List.length_range]; omega), List.getElem?_eq_none (by omega)]
theorem wQ_eq {C CS : Addr} {W : Wq} {X : List Cell} : wQ C CS W ++ X = frB C W.A W.S W.ps ++ (wdB W.wa W.ws ++ (spQs CS W.A.F W.sp ++ X)) := by
  unfold wQ
  simp only [List.append_assoc]
theorem wQ_perm {C CS : Addr} {W : Wq} {L1 L2 : List SpQ} {r : SpQ} {R : List Cell} (e : W.sp = L1 ++ r :: L2) : (wQ C CS W ++ R).Perm (frB C W.A W.S W.ps ++ (spI CS r.s W.A.F r.ta false :: lstC r.ta (tbV r.T) :: lstC r.ra [.ref r.s, .ref r.la] :: lstC r.la (tbV r.T) :: (wdB W.wa W.ws ++ (spQs CS W.A.F L1 ++ (spQs CS W.A.F L2 ++ R))))) := by
  rw [wQ_eq, e, spQs_app, List.append_assoc]
  refine List.Perm.append_left _ ?_
  show (wdB W.wa W.ws ++ (spQs CS W.A.F L1 ++ (spI CS r.s W.A.F r.ta false :: lstC r.ta (tbV r.T) :: lstC r.ra [.ref r.s, .ref r.la] :: lstC r.la (tbV r.T) :: (spQs CS W.A.F L2 ++ R)))).Perm _
  generalize wdB W.wa W.ws = Z
  generalize spQs CS W.A.F L1 = X
  generalize spQs CS W.A.F L2 ++ R = Y
  generalize spI CS r.s W.A.F r.ta false = c1
  generalize lstC r.ta (tbV r.T) = c2
  generalize lstC r.ra [.ref r.s, .ref r.la] = c3
  generalize lstC r.la (tbV r.T) = c4
  have h := (List.perm_append_comm (l₁ := Z ++ X) (l₂ := [c1, c2, c3, c4])).append_right Y
  simpa only [List.append_assoc, List.cons_append, List.nil_append] using h
section
variable {C CS CU W fU fE tP : Addr} {fdE : FuncData}
def sp_whole (C CS : Addr) : Sp := fun vs H Q _ => ∃ (W : Wq) (sl : Addr) (R : List Cell), vs = [.ref W.A.F, .ref sl, .ref W.wa, .int W.S.length] ∧ W.ok ∧ lstC sl (W.sp.map raV) ∈ R ∧ Hd H (wQ C CS W ++ R) ∧ W.sp.length ≤ 4 ∧ ∀ H', Q (.bl true) H'
theorem c_whole (T : Txt K mg aREG aOPS) (d : DefAt K mg "_law_whole" s__law_whole) (c__law_looks : C8.Cal P w K mg base 6 "_law_looks" (sp_looks C CS) []) (c__law_holds : C8.Cal P w K mg base 1 "_law_holds" sp_lholds []) (c__law_read : C8.Cal P w K mg base 1 "_law_read" sp_lread []) (c__law_page : C8.Cal P w K mg base 6 "_law_page" (sp_lpage C) [])
    (c_Space_contents : C8.Met P w K mg base 6 CS "contents" (sp_cont C CS) []) (c__law_alike : C8.Cal P w K mg base 3 "_law_alike" (sp_alike K 3) []) : C8.Cal P w K mg base 7 "_law_whole" (sp_whole C CS) [] := by
  refine mk d sc__law_whole (fun _ _ _ _ _ _ us hl => match us, hl with | [_, _, _, _], _ => rfl) (fun vs H Q E h => ?_) (fun f cdv A_ outer s H vs Q E hr h => ?_)
  · obtain ⟨W, sl, R, rfl, _⟩ := h
    rfl
  · obtain ⟨W, sl, R, rfl, ok, msl, hh, n4, q⟩ := h
    refine ⟨_, (pss_cons (ps_if (pt_not (pt_val (C8.pe_c c__law_looks hr (by first | decide | omega) rfl (pa_cons (pv 0) (pa_cons (pv 1) (pa_cons (pv 3) (pa_cons (pe_listRg rfl rfl T.b_list (prg_1 rfl T.b_range (pv 3))) pa_nil)))))))
    (pss_one (ps_ret pe_bl))
    pss_nil)
  (pss_cons (ps_set (i := 4) sc__law_whole.nd rfl (Or.inl rfl) (C8.pe_c c__law_holds hr (by first | decide | omega) rfl (pa_cons (pv 1) (pa_cons (pv 3) pa_nil))))
  (pss_cons (ps_for PassesOwn.never rfl (pi_range1 rfl T.b_range (pa_cons (pv 3) pa_nil)) (pg_name (i := 5) sc__law_whole.nd rfl (Or.inl rfl))
    (pss_cons (ps_set (i := 6) sc__law_whole.nd rfl (Or.inl rfl) (pe_tup (pa_cons pe_non (pa_cons (pe_ix ix_list (pv 2) (pv 5) (fun _ _ => rfl)) pa_nil))))
      (pss_cons (ps_if (pt_cmpR op_eq (pe_ix ix_list (pv 4) (pv 5) (fun _ _ => rfl)) pe_int (nomark _))
        (pss_one (ps_set (i := 6) sc__law_whole.nd rfl (Or.inl rfl) (pe_tup (pa_cons (pe_tup (pa_cons pe_str (pa_cons (pv 5) pa_nil))) (pa_cons pe_non pa_nil)))))
        pss_nil)
      (pss_one (ps_if (pt_not (pt_val (C8.pe_c c__law_alike hr (by first | decide | omega) rfl (pa_cons (pv 6) (pa_cons (C8.pe_c c__law_page hr (by first | decide | omega) rfl (pa_cons (pv 0) (pa_cons (pv 5) pa_nil))) pa_nil)))))
        (pss_one (ps_ret pe_bl))
        pss_nil)))))
  (pss_cons (ps_for PassesOwn.never rfl (pi_range1 rfl T.b_range (pa_cons (pe_callB Wk.b_len (by rfl) T.b_len (by decide +kernel) (pa_cons (pv 1) pa_nil)) pa_nil)) (pg_name (i := 7) sc__law_whole.nd rfl (Or.inr rfl))
    (pss_cons (ps_set (i := 8) sc__law_whole.nd rfl (Or.inl rfl) (pe_ix ix_list (pv 1) (pv 7) (fun _ _ => rfl)))
      (pss_cons (ps_setLc (i := 6) (own := [("address", 9)]) rfl sc__law_whole.nd rfl rfl (sw_true rfl rfl rfl (by decide +kernel)) (pi_range1 rfl T.b_range (pa_cons (pe_op op_mul pe_int (pe_callB Wk.b_len (by rfl) T.b_len (by decide +kernel) (pa_cons (pe_ix ix_list (pv 8) pe_int (fun _ _ => rfl)) pa_nil))) pa_nil)) (blkOk_by (own := [("address", 9)]) (N := nm__law_whole) (sc := defScope s__law_whole) (by decide +kernel)) (fun _ _ _ _ _ => (pg_name (i := 9) sc__law_whole.nd rfl (Or.inl rfl))) (fun _ _ _ _ _ => pts_nil) (fun _ _ _ _ _ => (C8.pe_c c__law_read hr (by first | decide | omega) rfl (pa_cons (pv 1) (pa_cons (pv 2) (pa_cons (pv 7) (pa_cons (pv 9) pa_nil)))))))
      (pss_one (ps_if (pt_not (pt_val (C8.pe_c c__law_alike hr (by first | decide | omega) rfl (pa_cons (pv 6) (pa_cons (C8.pe_mt0 c_Space_contents hr (by first | decide | omega) (pe_ix ix_list (pv 8) pe_int (fun _ _ => rfl))) pa_nil)))))
        (pss_one (ps_ret pe_bl))
        pss_nil)))))
  (pss_one (ps_ret pe_bl)))))), ?_⟩
    have hsl : 2000 < sizeLine := by rw [sizeLine_eq]; decide
    have h96 := ok.k.f.l
    have inR : ∀ {c : Cell}, c ∈ R → c ∈ wQ C CS W ++ R := fun h => List.mem_append_right _ h
    have h16 : ∀ r ∈ W.sp, r.T.length ≤ 16 := fun r hr => (ok.k.t r.T (List.mem_map_of_mem hr)).2
    walk_at "gs"
    unfold tLstRg tRg1
    walk_at "gs"
    refine ⟨_, rfl, ?_⟩
    refine ⟨RgOk.of_le (by omega) (by omega) (by omega) (by omega), fun p hp => ?_⟩
    dsimp only
    have er : rgV 0 (W.S.length : Int) = (List.range W.S.length).map fun x => V.int (x : Nat) := by
      unfold rgV
      rw [show ((W.S.length : Int) - 0).toNat = W.S.length by omega]
      exact List.map_congr_left fun i _ => congrArg V.int (Int.zero_add _)
    rw [er]
    have h1 := hh.newL (New.of (o := .lst ((List.range W.S.length).map fun x => V.int (x : Nat))) hp)
    generalize upd H p (.lst ((List.range W.S.length).map fun x => V.int (x : Nat))) = H1 at h1 ⊢
    clear hh er hp
    walk_at "gs"
    refine ⟨W, sl, p, List.range W.S.length, lstC p ((List.range W.S.length).map fun x => V.int (x : Nat)) :: R, rfl, ok, fun x hx => List.mem_range.mp hx, .tail _ msl, .head _, Hd.sb h1 (by walk_at "sbx"), fun H2 h2 => ?_⟩
    clear h1
    generalize lstC p ((List.range W.S.length).map fun x => V.int (x : Nat)) = g1 at *
    have inR2 : ∀ {c : Cell}, c ∈ R → c ∈ wQ C CS W ++ (g1 :: R) := fun h => List.mem_append_right _ (.tail _ h)
    walk_at "gs"
    refine ⟨sl, W.sp, W.S, _, rfl, h96, h2, inR2 msl, fun r hr0 => ⟨wQ_row (C := C) (CS := CS) (R := g1 :: R) hr0, h16 r hr0⟩, ok.k.c, ok.k.e, fun hp H3 h3 => ?_⟩
    clear h2
    have hz0 := hsI_len (S := W.S)
    have hws : (W.ws.map pgV).length = W.S.length := by rw [List.length_map]; exact ok.p.1
    walk_at "gs"
    refine l_range (m := W.S.length) rfl (by omega) (fun i σ H => ∃ (x5 x6 : Option V), σ = [some (.ref W.A.F), some (.ref sl), some (.ref W.wa), some (.int W.S.length), some (.ref hp), x5, x6, none, none, none] ∧ Hd H (lstC hp ((hsI W.S).map V.int) :: (wQ C CS W ++ g1 :: R))) ⟨_, _, rfl, h3⟩ ?_ ?_
    · clear h3
      rintro i σ H4 hi ⟨x5, x6, rfl, h4⟩
      obtain ⟨wd1, wd2⟩ := wQ_wd (C := C) (CS := CS) (w := W) (R := g1 :: R)
      have hzi := hsI_at hi
      obtain ⟨o, ho⟩ : ∃ o, W.ws[i]? = some o := ⟨_, List.getElem?_eq_getElem (by rw [ok.p.1]; exact hi)⟩
      have hwi : (W.ws.map pgV)[i]? = some (pgV o) := by rw [List.getElem?_map, ho]; rfl
      dsimp only [List.set]
      walk_at "gs"
      rename_i t H5 h5 z hz
      obtain rfl : z = (hat W.S i : Int) := by
        rw [hzi] at hz
        exact (Option.some.inj hz).symm
      clear h4
      by_cases hq : hat W.S i = 0
      · refine w_iteT (by omega) ?_
        walk_at "gs"
        rename_i e1 H6 h6 t2 H7 h7
        clear h5 h6
        rw [wQ_eq] at h7
        refine ⟨W.A, i, W.S, W.ps, tupC t2 [.ref e1, .non] :: tupC e1 [.str "Unknown", .int i] :: tupC t [.non, pgV o] :: lstC hp ((hsI W.S).map V.int) :: (wdB W.wa W.ws ++ (spQs CS W.A.F W.sp ++ (g1 :: R))), rfl, hi, h96, ok.k.f.pg, Hd.sb h7 (by walk_at "sbx"), fun z => absurd z (by omega), fun _ t3 e3 H8 h8 => ?_⟩
        clear h7
        walk_at "gs"
        refine u_alike (n := 2) (d := .tuple [.tuple [.str "Unknown", .int i], .none]) (Dn.tp (n := 1) h8 (by walk_at "mem") (by simp) (.cons (Dn.tp (n := 0) h8 (by walk_at "mem") (by simp) (.cons Dn.str (.cons Dn.int .nil))) (.cons Dn.non .nil))) (Dn.tp (n := 1) h8 (by walk_at "mem") (by simp) (.cons (Dn.tp (n := 0) h8 (by walk_at "mem") (by simp) (.cons Dn.str (.cons Dn.int .nil))) (.cons Dn.non .nil))) ?_
        walk_at "gs"
        refine ⟨_, _, rfl, ?_⟩
        rw [wQ_eq]
        exact Hd.sb h8 (by walk_at "sbx")
      · refine w_iteF (by omega) ?_
        rw [wQ_eq] at h5
        obtain ⟨_, b, hb⟩ := ok.p.2 i hi (by omega)
        have eo : o = some (b, wat W.S i) := by rw [ho] at hb; exact Option.some.inj hb
        have w8 := (ok.p.2 i hi (by omega)).1
        rw [eo, show pgV (some (b, wat W.S i)) = V.ref b from rfl] at h5
        have mb : lstC b ((wat W.S i).map V.int) ∈ wdB W.wa W.ws := .tail _ (pgC_mem hb)
        walk_at "gs"
        refine ⟨W.A, i, W.S, W.ps, tupC t [.non, .ref b] :: lstC hp ((hsI W.S).map V.int) :: (wdB W.wa W.ws ++ (spQs CS W.A.F W.sp ++ (g1 :: R))), rfl, hi, h96, ok.k.f.pg, Hd.sb h5 (by walk_at "sbx"), fun _ t3 l3 H8 h8 => ?_, fun z => absurd z hq⟩
        clear h5
        have mb8 : lstC b ((wat W.S i).map V.int) ∈ tupC t3 [.non, .ref l3] :: lstC l3 ((wat W.S i).map V.int) :: (frB C W.A W.S W.ps ++ (tupC t [.non, .ref b] :: lstC hp ((hsI W.S).map V.int) :: (wdB W.wa W.ws ++ (spQs CS W.A.F W.sp ++ (g1 :: R))))) := .tail _ (.tail _ (List.mem_append_right _ (.tail _ (.tail _ (List.mem_append_left _ mb)))))
        walk_at "gs"
        refine u_alike (n := 2) (d := .tuple [.none, .list ((wat W.S i).map .int)]) (Dn.tp (n := 1) h8 (by walk_at "mem") (by simp) (.cons Dn.non (.cons (Dn.lt (n := 0) h8 mb8 (by rw [List.length_map]; omega) Dn.ints) .nil))) (Dn.tp (n := 1) h8 (by walk_at "mem") (by simp) (.cons Dn.non (.cons (Dn.lt (n := 0) h8 (by walk_at "mem") (by rw [List.length_map]; omega) Dn.ints) .nil))) ?_
        walk_at "gs"
        refine ⟨_, _, rfl, ?_⟩
        rw [wQ_eq]
        exact Hd.sb h8 (by walk_at "sbx")
    · rintro σ H4 ⟨x5, x6, rfl, h4⟩
      clear h3
      have hsp : (W.sp.map raV).length = W.sp.length := List.length_map ..
      generalize lstC hp ((hsI W.S).map V.int) = g2 at *
      have inR3 : ∀ {c : Cell}, c ∈ R → c ∈ g2 :: (wQ C CS W ++ (g1 :: R)) := fun h => .tail _ (inR2 h)
      walk_at "gs"
      rw [hsp]
      refine l_range (m := W.sp.length) rfl (by omega) (fun i σ H => ∃ (x6 x7 x8 : Option V), σ = [some (.ref W.A.F), some (.ref sl), some (.ref W.wa), some (.int W.S.length), some (.ref hp), x5, x6, x7, x8, none] ∧ Hd H (g2 :: (wQ C CS W ++ g1 :: R))) ⟨_, _, _, rfl, h4⟩ ?_ ?_
      · clear h4
        rintro i σ H5 hi ⟨x6, x7, x8, rfl, h5⟩
        obtain ⟨r, hr0⟩ : ∃ r, W.sp[i]? = some r := ⟨_, List.getElem?_eq_getElem hi⟩
        have hm := List.mem_of_getElem? hr0
        obtain ⟨r1, r2⟩ := wQ_row (C := C) (CS := CS) (R := g1 :: R) hm
        have t := ok.k.tok (T := r.T) (List.mem_map_of_mem hm)
        have t16 := t.n16
        have hl1 : (tbV r.T).length = r.T.length := List.length_map ..
        dsimp only [List.set]
        walk_at "gs"
        refine w_ixL (h5.sqL (inR3 msl)) (atI_nat (v := .ref r.ra) (by rw [List.getElem?_map, hr0]; rfl)) ?_
        walk_at "gs"
        obtain ⟨wd1, wd2⟩ := wQ_wd (C := C) (CS := CS) (w := W) (R := g1 :: R)
        rw [hl1]
        refine g_lcR (m := 8 * r.T.length) h5 (by omega) (by omega) (fun j D H => Hd H (lstC D (((List.range j).map (valAt W.S r.T)).map V.int) :: g2 :: (wQ C CS W ++ g1 :: R))) (fun D H1 h1 => h1) ?_ ?_
        · intro j D H6 hj h6
          have hlr : (((List.range j).map (valAt W.S r.T)).map V.int).length = j := by rw [List.length_map, List.length_map, List.length_range]
          walk_at "gs"
          refine ⟨sl, W.wa, W.sp, r, i, j, W.S, W.ws, _, rfl, hr0, .tail _ (inR3 msl), ⟨.tail _ (.tail _ r1), .tail _ (.tail _ r2)⟩, .tail _ (.tail _ wd1), fun h => .tail _ (.tail _ (wd2 h)), ok.p, t, hj, h6, ?_⟩
          walk_at "gs"
          rename_i H7 h7
          rw [List.range_succ, List.map_append, List.map_append]
          exact h7
        · intro D H6 h6
          rw [valS_map ok.k.f t] at h6
          obtain ⟨L1, L2, e⟩ := List.append_of_mem hm
          have pm := wQ_perm (C := C) (CS := CS) (R := g1 :: R) e
          have h7 : Hd H6 (lstC D ((valS W.S r.T).map V.int) :: g2 :: (frB C W.A W.S W.ps ++ (spI CS r.s W.A.F r.ta false :: lstC r.ta (tbV r.T) :: lstC r.ra [.ref r.s, .ref r.la] :: lstC r.la (tbV r.T) :: (wdB W.wa W.ws ++ (spQs CS W.A.F L1 ++ (spQs CS W.A.F L2 ++ (g1 :: R))))))) := h6.perm (List.Perm.append_left [lstC D ((valS W.S r.T).map V.int), g2] pm)
          clear h6 h5
          obtain ⟨vl, vw⟩ := valS_len ok.k.f t (L := r.T) fun o h => h
          walk_at "gs"
          refine ⟨r.s, W.A, r.ta, W.S, W.ps, r.T, lstC D ((valS W.S r.T).map V.int) :: g2 :: lstC r.ra [.ref r.s, .ref r.la] :: lstC r.la (tbV r.T) :: (wdB W.wa W.ws ++ (spQs CS W.A.F L1 ++ (spQs CS W.A.F L2 ++ (g1 :: R)))), rfl, ok.k.f, t, Hd.sb h7 (by walk_at "sbx"), fun l H8 h8 => ?_⟩
          clear h7
          walk_at "gs"
          refine u_alike (n := 2) (d := .list ((valS W.S r.T).map .int)) (Dn.lt (n := 1) h8 (by walk_at "mem") (by rw [List.length_map]; omega) Dn.ints) (Dn.lt (n := 1) h8 (.head _) (by rw [List.length_map]; omega) Dn.ints) ?_
          walk_at "gs"
          refine ⟨_, _, _, rfl, ?_⟩
          have h9 : Hd H8 (g2 :: (frB C W.A W.S W.ps ++ (spI CS r.s W.A.F r.ta false :: lstC r.ta (tbV r.T) :: lstC r.ra [.ref r.s, .ref r.la] :: lstC r.la (tbV r.T) :: (wdB W.wa W.ws ++ (spQs CS W.A.F L1 ++ (spQs CS W.A.F L2 ++ (g1 :: R))))))) := Hd.sb h8 (by walk_at "sbx")
          exact h9.perm (List.Perm.append_left [g2] pm.symm)
      · rintro σ H5 ⟨x6, x7, x8, rfl, h5⟩
        walk_at "gs"
        exact q _
end
end
end K05
set_option Elab.async false
set_option linter.all false
set_option maxRecDepth 100000
set_option maxHeartbeats 4000000
namespace K05
open PySem PySem.Spec PyProof.Rows L2 Wk
local macro_rules | `(tactic| walk_at "u1") => `(tactic| fail "no more")
local macro_rules | `(tactic| walk_at "pos") => `(tactic| first | assumption | omega | decide | (simp only [Int.ofNat_eq_natCast] at *; omega))
local macro_rules | `(tactic| walk_at "sz") => `(tactic| first
  | (simp only [List.length_cons, List.length_nil]; decide)
  | exact Evl.sz_of (by omega)
  | exact Evl.sz_lt (by omega)
  | exact Evl.sz_of (by simp only [List.length_map, List.length_append, List.length_cons, List.length_nil, List.length_replicate]; omega)
  | exact Evl.sz_lt (by simp only [List.length_map, List.length_append, List.length_cons, List.length_nil, List.length_replicate]; omega))
local macro_rules | `(tactic| walk_at "cond") => `(tactic| first
  | exact Or.inr ⟨by decide, by decide⟩
  | (show (0 : Int) < _; first | decide | assumption | omega)
  | exact Or.inl ⟨by omega, by omega⟩
  | exact Or.inr ⟨by omega, by omega⟩
  | exact ⟨by decide, by decide, by decide⟩
  | exact log2_lt (by omega) (by omega)
  | exact ⟨by omega, by omega⟩)
local macro_rules | `(tactic| walk_at "ty") => `(tactic| first
  | exact ty_int | exact ty_bl | exact ty_str | exact ty_non
  | exact ty_L (by assumption) | exact ty_T (by assumption)
  | exact ty_L (SqL.of (by assumption)) | exact ty_T (SqT.of (by assumption)))
local macro_rules | `(tactic| walk_at "kit") => `(tactic| first
  | exact k_ii | exact k_ib | exact k_is | exact k_il | exact k_it
  | exact k_bb | exact k_bi | exact k_bs | exact k_bl | exact k_bt
  | exact k_ss | exact k_sb | exact k_si | exact k_sl | exact k_st
  | exact k_ll | exact k_lb | exact k_li | exact k_ls | exact k_lt
  | exact k_tt | exact k_tb | exact k_ti | exact k_ts | exact k_tl
  | exact k_nn | exact k_ni | exact k_ns | exact k_nl | exact k_nt)
local macro_rules | `(tactic| walk_at "s1") => `(tactic| first
  | with_reducible refine w_seq ?_
  | with_reducible refine w_set ?_
  | with_reducible refine w_op ?_
  | ((with_reducible refine' w_var ?h1 ?_); (case h1 => rfl))
  | with_reducible refine w_c ?_
  | with_reducible refine w_cb ?_
  | with_reducible refine w_cons ?_
  | with_reducible refine w_nil ?_
  | with_reducible refine w_I0 ?_
  | ((with_reducible refine' w_I ?c1 ?_); case c1 => walk_at "cond")
  | with_reducible refine w_ret ?_
  | with_reducible refine w_next ?_
  | with_reducible refine w_ifS ?_
  | with_reducible refine w_test ?_
  | with_reducible refine w_tB ?_
  | with_reducible refine w_k ?_
  | with_reducible refine w_eqI ?_
  | with_reducible refine w_neI ?_
  | with_reducible refine w_eqS ?_
  | with_reducible refine w_neS ?_
  | with_reducible refine w_and ?_
  | with_reducible refine w_or ?_
  | with_reducible refine w_not ?_
  | with_reducible refine w_andV ?_
  | with_reducible refine w_orV ?_
  | with_reducible refine w_notV ?_
  | with_reducible refine w_ifE ?_
  | with_reducible refine w_true ?_
  | with_reducible refine w_false ?_
  | with_reducible refine w_ntrue ?_
  | with_reducible refine w_nfalse ?_
  | with_reducible refine w_call ?_
  | with_reducible refine c_int ?_
  | with_reducible refine c_abs ?_
  | with_reducible refine c_max ?_
  | with_reducible refine c_min ?_
  | with_reducible refine w_drop ?_
  | with_reducible refine w_sfld ?_
  | with_reducible refine w_meth ?_
  | with_reducible refine w_make ?_
  | with_reducible refine w_prop ?_
  | with_reducible refine w_callK ?_
  | with_reducible refine w_callN ?_
  | with_reducible refine w_star ?_
  | with_reducible refine w_gcons ?_
  | with_reducible refine w_gname ?_
  | with_reducible refine w_gnil ?_
  | with_reducible refine w_retN ?_
  | with_reducible refine w_tup ?_
  | with_reducible refine w_lst ?_
  | with_reducible refine w_fld ?_
  | with_reducible refine w_bm ?_
  | with_reducible refine w_bm0 ?_
  | with_reducible refine w_forL ?_
  | with_reducible refine w_forT ?_
  | with_reducible refine w_forS ?_
  | with_reducible refine w_forR ?_
  | with_reducible refine w_lcR ?_
  | with_reducible refine w_lcL ?_
  | with_reducible refine w_lcT ?_
  | with_reducible refine w_isN ?_
  | with_reducible refine w_notN ?_
  | with_reducible refine w_asg ?_
  | with_reducible refine w_gsub ?_
  | ((with_reducible refine' w_aug ?h1 ?_); (case h1 => rfl))
  | with_reducible refine w_augS ?_
  | with_reducible refine w_ipI ?_
  | with_reducible refine w_un ?_
  | with_reducible refine w_U ?_
  | ((with_reducible refine' w_iteF ?f1 ?_); case f1 => (first | (intro h; cases h; done) | decide))
  | ((with_reducible refine' w_iteT ?f1 ?_); case f1 => rfl)
  | ((with_reducible refine' w_iteNF ?f1 ?_); case f1 => rfl)
  | ((with_reducible refine' w_iteNT ?f1 ?_); case f1 => (first | (intro h; cases h; done) | decide))
  | ((with_reducible refine' c_isi ?t1 ?k1 ?_); (case t1 => walk_at "ty"); (case k1 => walk_at "kit"))
  | ((with_reducible refine' w_eq ?e1 ?_); case e1 => rfl)
  | ((with_reducible refine' w_ne ?e1 ?_); case e1 => rfl)
  | walk_at "u1")
local macro_rules | `(tactic| walk_at "s") => `(tactic| repeat walk_at "s1")
local macro_rules | `(tactic| walk_at "mem") => `(tactic| first | with_reducible exact List.mem_cons_self .. | ((with_reducible refine' List.mem_cons_of_mem _ ?q); (case q => walk_at "mem")) | assumption | ((with_reducible refine' List.mem_append_right _ ?q); (case q => walk_at "mem")) | (exact List.mem_append_left _ (by assumption)))
local macro_rules | `(tactic| walk_at "pk") => `(tactic| first | with_reducible exact Pk.here | ((with_reducible refine' Pk.there ?q); (case q => walk_at "pk")) | ((with_reducible refine' Pk.app ?q); (case q => walk_at "pk")))
local macro_rules | `(tactic| walk_at "pkb") => `(tactic| first | with_reducible exact PkB.here | ((with_reducible refine' PkB.there ?q); (case q => walk_at "pkb")) | ((with_reducible refine' PkB.app ?q); (case q => walk_at "pkb")))
local macro_rules | `(tactic| walk_at "spl") => `(tactic| first | with_reducible exact Spl.nil | ((with_reducible refine' Spl.cons ?h ?t); (case h => walk_at "pk"); (case t => walk_at "spl")) | ((with_reducible refine' Spl.blk ?h ?t); (case h => walk_at "pkb"); (case t => walk_at "spl")))
local macro_rules | `(tactic| walk_at "sbx") => `(tactic| first | with_reducible exact Sb.refl | with_reducible exact Sb.nil | with_reducible exact Sb.left | ((with_reducible refine' Sb.cons ?h ?t); (case h => walk_at "pk"); (case t => walk_at "sbx")) | ((with_reducible refine' Sb.blk ?h ?t); (case h => walk_at "pkb"); (case t => walk_at "sbx")) | ((with_reducible refine' Sb.drop ?q); (case q => walk_at "sbx")) | ((with_reducible refine' Sb.right ?q); (case q => walk_at "sbx")))
local macro_rules | `(tactic| walk_at "hd") => `(tactic| first | assumption | exact Hd.sb (by assumption) (by walk_at "sbx"))
local macro_rules | `(tactic| walk_at "sq") => `(tactic| first
  | assumption
  | exact Hd.sqL (by assumption) (by walk_at "mem")
  | exact Hd.sqT (by assumption) (by walk_at "mem")
  | exact Hd.sqF (by assumption) (by walk_at "mem")
  | (refine .inl ?_; walk_at "sq")
  | (refine .inr ?_; walk_at "sq"))
local macro_rules | `(tactic| walk_at "at") => `(tactic| first | rfl | assumption | exact atI_nat (by assumption))
local macro_rules | `(tactic| walk_at "dn1") => `(tactic| first
  | exact Dn.int | exact Dn.str | exact Dn.non | exact Dn.bl | assumption
  | ((refine' Dn.tp ?a1 ?m1 ?l1 ?p1); (case a1 => assumption); (case m1 => walk_at "mem"); (case l1 => (simp only [List.length_cons, List.length_nil]; omega)); (case p1 => walk_at "dns"))
  | ((refine' Dn.lt ?a1 ?m1 ?l1 ?p1); (case a1 => assumption); (case m1 => walk_at "mem"); (case l1 => (simp only [List.length_cons, List.length_nil]; omega)); (case p1 => walk_at "dns")))
local macro_rules | `(tactic| walk_at "dns") => `(tactic| first | exact Paired.nil | exact Dn.ints | ((refine' Paired.cons ?a1 ?b1); (case a1 => walk_at "dn1"); (case b1 => walk_at "dns")))
local macro_rules | `(tactic| walk_at "g1") => `(tactic| first
  | ((with_reducible refine' g_ixI ?h1 ?h2 ?h3 ?_); (case h1 => assumption); (case h2 => walk_at "mem"); (case h3 => omega); intro z hz)
  | ((with_reducible refine' g_ixIT ?h1 ?h2 ?h3 ?_); (case h1 => assumption); (case h2 => walk_at "mem"); (case h3 => omega); intro z hz)
  | ((with_reducible refine' g_setI ?h1 ?h2 ?h3 ?_); (case h1 => assumption); (case h2 => walk_at "pk"); (case h3 => omega); intro H2 hh2)
  | ((with_reducible refine' w_ixL ?h1 ?h2 ?_); (case h1 => walk_at "sq"); (case h2 => walk_at "at"))
  | ((with_reducible refine' w_ixT ?h1 ?h2 ?_); (case h1 => walk_at "sq"); (case h2 => walk_at "at"))
  | ((with_reducible refine' w_ixAny ?h1 ?h2 ?_); (case h1 => walk_at "sq"); (case h2 => walk_at "at"))
  | ((with_reducible refine' c_lenA ?h1 ?_); (case h1 => walk_at "sq"))
  | ((with_reducible refine' c_isi ?t1 ?k1 ?_); (case t1 => first | exact ty_T (by walk_at "sq") | exact ty_L (by walk_at "sq")); (case k1 => walk_at "kit"))
  | ((with_reducible refine' g_lst ?h1 ?h2 ?_); (case h1 => assumption); (case h2 => walk_at "sz"); intro p H2 hh2)
  | ((with_reducible refine' g_tup ?h1 ?h2 ?_); (case h1 => assumption); (case h2 => walk_at "sz"); intro p H2 hh2)
  | ((with_reducible refine' g_dict ?h1 ?_); (case h1 => assumption); intro p H2 hh2)
  | ((with_reducible refine' g_listL ?h1 ?h2 ?_); (case h1 => assumption); (case h2 => walk_at "sq"); intro p H2 hh2)
  | ((with_reducible refine' g_listT ?h1 ?h2 ?_); (case h1 => assumption); (case h2 => walk_at "sq"); intro p H2 hh2)
  | ((with_reducible refine' g_tupL ?h1 ?h2 ?_); (case h1 => assumption); (case h2 => walk_at "sq"); intro p H2 hh2)
  | ((with_reducible refine' g_set ?h1 ?h2 ?h3 ?_); (case h1 => assumption); (case h2 => walk_at "pk"); (case h3 => first | rfl | assumption | exact Evl.ixN_nat (by first | omega | (simp only [List.length_cons, List.length_nil]; omega))); intro H2 hh2)
  | ((with_reducible refine' g_kbm ?h1 ?h2 ?_); (case h1 => assumption); (case h2 => walk_at "mem"))
  | ((with_reducible refine' g_kbm0 ?h1 ?h2 ?_); (case h1 => assumption); (case h2 => walk_at "mem"))
  | ((with_reducible refine' g_app ?h1 ?h2 ?h3 ?_); (case h1 => assumption); (case h2 => walk_at "pk"); (case h3 => walk_at "sz"); intro H2 hh2)
  | ((with_reducible refine' g_kapp ?h1 ?h2 ?h3 ?_); (case h1 => assumption); (case h2 => walk_at "pk"); (case h3 => walk_at "sz"); intro H2 hh2)
  | ((with_reducible refine' g_fld ?h1 ?h2 ?h3 ?h4 ?h5 ?_); (case h1 => assumption); (case h2 => walk_at "mem"); (case h3 => assumption); (case h4 => assumption); (case h5 => rfl))
  | ((with_reducible refine' g_sfld ?h1 ?h2 ?h3 ?h4 ?h5 ?_); (case h1 => assumption); (case h2 => walk_at "pk"); (case h3 => assumption); (case h4 => assumption); (case h5 => decide); intro H2 hh2)
  | ((with_reducible refine' g_meth ?h1 ?h2 ?h3 ?_); (case h1 => assumption); (case h2 => walk_at "mem"); (case h3 => rfl))
  | ((with_reducible refine' g_prop ?h1 ?h2 ?_); (case h1 => assumption); (case h2 => walk_at "mem"))
  | ((with_reducible refine' g_make ?h1 ?_); (case h1 => assumption); intro x H2 hh2)
  | ((with_reducible refine' g_cat ?h1 ?h2 ?h3 ?h4 ?_); (case h1 => assumption); (case h2 => walk_at "mem"); (case h3 => walk_at "mem"); (case h4 => walk_at "sz"); intro p H2 hh2)
  | ((with_reducible refine' g_inT ?h1 ?h2 ?h3 ?h4 ?h5 ?_); (case h1 => assumption); (case h2 => walk_at "mem"); (case h3 => rfl); (case h4 => rfl); (case h5 => rfl)))
local macro_rules | `(tactic| walk_at "gs") => `(tactic| repeat first | walk_at "s1" | walk_at "g1")
local macro_rules | `(tactic| walk_at "ite") => `(tactic| first
  | ((with_reducible refine' w_iteT ?h1 ?_); (case h1 => omega))
  | ((with_reducible refine' w_iteF ?h1 ?_); (case h1 => omega))
  | (with_reducible refine w_ite ?_ ?_ <;> intro hq)
  | ((with_reducible refine' w_iteNT ?h1 ?_); (case h1 => omega))
  | ((with_reducible refine' w_iteNF ?h1 ?_); (case h1 => omega))
  | (with_reducible refine w_iteN ?_ ?_ <;> intro hq))
local macro_rules | `(tactic| walk_at "go") => `(tactic| repeat' first | walk_at "s1" | walk_at "g1" | walk_at "ite")
local macro_rules | `(tactic| walk_at "g1") => `(tactic| first
  | ((with_reducible refine' g_take1 ?h1 ?h2 ?h3 ?h4 ?_); (case h1 => assumption); (case h2 => walk_at "spl"); (case h3 => omega); (case h4 => omega); intro k H2 hk1 hh2)
  | ((with_reducible refine' g_take ?h1 ?h2 ?h4 ?_); (case h1 => assumption); (case h2 => walk_at "spl"); (case h4 => omega); intro k H2 hk1 hh2)
  | ((with_reducible refine' g_betweenN ?h1 ?h2 ?h5 ?h3 ?h4 ?_); (case h1 => assumption); (case h2 => walk_at "spl"); (case h5 => omega); (case h3 => omega); (case h4 => omega); intro k H2 hk1 hk2 hh2)
  | ((with_reducible refine' g_between ?h1 ?h2 ?h3 ?h4 ?_); (case h1 => assumption); (case h2 => walk_at "spl"); (case h3 => omega); (case h4 => omega); intro k H2 hk1 hk2 hh2)
  | ((with_reducible refine' g_size ?h1 ?h2 ?h3 ?h4 ?_); (case h1 => assumption); (case h2 => walk_at "spl"); (case h3 => omega); (case h4 => omega); intro k H2 hk1 hh2)
  | ((with_reducible refine' g_word ?h1 ?h2 ?_); (case h1 => assumption); (case h2 => walk_at "spl"); intro k H2 hk1 hh2))
local macro_rules | `(tactic| walk_at "g1") => `(tactic| first | with_reducible refine w_sl ?_ | with_reducible refine w_part ?_ | with_reducible refine w_noPart ?_ | with_reducible refine w_exI ?_)
section
variable {P : Program} {w : World} {K : PySem.W.Frag} {mg : Str → Option Value} {base : Heap} {aREG aOPS : Addr}
theorem g_ixOwn {C a : Addr} {sp : Sp} {E : XK} {H : Hp} {Q : VK} {L : List Cell} {fs : List (Str × V)} {y : V} (hh : Hd H L) (k : insC a C fs ∈ L) (h : sp [.ref a, y] H Q E) : rIxOwn C sp E (.ref a) y H Q := let ⟨dx, e⟩ := hh.ins k; ⟨a, dx, fs, rfl, e, h⟩
theorem g_setOwn {C a : Addr} {sp : Sp} {E : XK} {H : Hp} {Q : Hp → Prop} {L : List Cell} {fs : List (Str × V)} {y v : V} (hh : Hd H L) (k : insC a C fs ∈ L) (h : sp [.ref a, y, v] H (fun _ H' => Q H') E) : tSetOwn C sp E (.ref a) y v H Q := let ⟨dx, e⟩ := hh.ins k; ⟨a, dx, fs, rfl, e, h⟩
def isRW : CL → Bool
  | .wr .. => true
  | .rd .. => true
  | _ => false
section
variable {C CS tP : Addr}
def sp_qstep (C CS tP : Addr) : Sp := fun vs H Q _ => ∃ (st c sl ca : Addr) (W : Wq) (L1 L2 : List SpQ) (r : SpQ) (k : CL) (R : List Cell), vs = [.ref st, .ref sl, .ref W.wa, .int L1.length, .ref ca] ∧ W.ok ∧ W.sp = L1 ++ r :: L2 ∧ isRW k = true ∧ CkOk k ∧ (W.sp.map SpQ.T).flatten.length ≤ W.S.length ∧
  Hd H (stoC st c :: scrC c :: tblC tP :: lstC sl (W.sp.map raV) :: tupC ca (clV k) :: (wQ C CS W ++ R)) ∧
  ∀ (W' : Wq) H', W'.ok → W'.A = W.A → W'.wa = W.wa → W'.S.length = W.S.length → (∃ T', T'.length = r.T.length ∧ W'.sp = L1 ++ { r with T := T' } :: L2) → Hd H' (stoC st c :: scrC c :: tblC tP :: lstC sl (W.sp.map raV) :: tupC ca (clV k) :: (wQ C CS W' ++ R)) → Q (.bl true) H'
theorem c_qstep (T : Txt K mg aREG aOPS) (d : DefAt K mg "_law_step" s__law_step) (hsq : PySem.W.noSeq K CS = true) (fI : ∀ f, Meth K CS "__getitem__" f → PySem.W.fnIn K f = true) (c_Space_read : C8.Met P w K mg base 7 CS "read" (sp_read C CS) []) (c_Space_write : C8.Met P w K mg base 9 CS "write" (sp_write C CS tP) []) (c_Space___getitem__ : C8.Met P w K mg base 7 CS "__getitem__" (sp_wordat C CS) []) (c_Space___setitem__ : C8.Met P w K mg base 10 CS "__setitem__" (sp_write C CS tP) [])
    (c__law_read : C8.Cal P w K mg base 1 "_law_read" sp_lread []) (c__law_write : C8.Cal P w K mg base 2 "_law_write" sp_lwrite []) (c__law_take : C8.Cal P w K mg base 2 "_law_take" sp_take []) (c__law_alike : C8.Cal P w K mg base 3 "_law_alike" (sp_alike K 3) []) : C8.Cal P w K mg base 11 "_law_step" (sp_qstep C CS tP) [] := by
  refine mk d sc__law_step (fun _ _ _ _ _ _ us hl => match us, hl with | [_, _, _, _, _], _ => rfl) (fun vs H Q E h => ?_) (fun f cdv A_ outer s H vs Q E hr h => ?_)
  · obtain ⟨st, c, sl, ca, W, L1, L2, r, k, R, rfl, _⟩ := h
    rfl
  · obtain ⟨st, c, sl, ca, W, L1, L2, r, kk, R, rfl, ok, esp, hrw, hck, cap, hh, q⟩ := h
    refine ⟨_, (pss_cons (ps_set (i := 5) sc__law_step.nd rfl (Or.inl rfl) (pe_ix ix_list (pv 1) (pv 3) (fun _ _ => rfl)))
  (pss_cons (ps_set (i := 6) sc__law_step.nd rfl (Or.inl rfl) (pe_op op_mod (pe_callTy Wk.b_int (by rfl) T.b_int (by decide +kernel) (pa_cons (pe_ix ix_tup (pv 4) pe_int (fun _ _ => rfl)) pa_nil)) (pe_op op_mul pe_int (pe_callB Wk.b_len (by rfl) T.b_len (by decide +kernel) (pa_cons (pe_ix ix_list (pv 5) pe_int (fun _ _ => rfl)) pa_nil)))))
  (pss_cons (ps_set (i := 7) sc__law_step.nd rfl (Or.inl rfl) (C8.pe_c c__law_read hr (by first | decide | omega) rfl (pa_cons (pv 1) (pa_cons (pv 2) (pa_cons (pv 3) (pa_cons (pv 6) pa_nil))))))
  (pss_cons (ps_set (i := 8) sc__law_step.nd rfl (Or.inl rfl) (pe_ix ix_list (pv 5) pe_int (fun _ _ => rfl)))
  (pss_cons (ps_set (i := 9) sc__law_step.nd rfl (Or.inl rfl) (pe_cmpR op_eq (C8.pe_c c__law_take hr (by first | decide | omega) rfl (pa_cons (pv 0) (pa_cons pe_int pa_nil))) pe_int (nomark _)))
  (pss_cons (ps_if (PW.pt (pw_and (pt_cmpR op_eq (pe_ix ix_tup (pv 4) pe_int (fun _ _ => rfl)) pe_str (nomark _)) (pw_and1 (pt_val (pv 9)))))
    (pss_one (ps_ret (C8.pe_c c__law_alike hr (by first | decide | omega) rfl (pa_cons (pv 7) (pa_cons (Wk.pe_ixOwn c_Space___getitem__ fI hr (by first | decide | omega) (pv 8) (pv 6)) pa_nil)))))
    pss_nil)
  (pss_cons (ps_if (pt_cmpR op_eq (pe_ix ix_tup (pv 4) pe_int (fun _ _ => rfl)) pe_str (nomark _))
    (pss_one (ps_ret (C8.pe_c c__law_alike hr (by first | decide | omega) rfl (pa_cons (pv 7) (pa_cons (C8.pe_mt c_Space_read hr (by first | decide | omega) (pv 8) (pa_cons (pv 6) pa_nil)) pa_nil)))))
    pss_nil)
  (pss_cons (ps_set (i := 10) sc__law_step.nd rfl (Or.inl rfl) (pe_ix ix_tup (pv 4) pe_int (fun _ _ => rfl)))
  (C8.pss_cut (ps_if (pt_cmpR op_eq (C8.pe_c c__law_take hr (by first | decide | omega) rfl (pa_cons (pv 0) (pa_cons pe_int pa_nil))) pe_int (nomark _))
    (pss_one (ps_set (i := 10) sc__law_step.nd rfl (Or.inl rfl) (pv 7)))
    pss_nil)
  (pss_cons (ps_expr (C8.pe_c c__law_write hr (by first | decide | omega) rfl (pa_cons (pv 1) (pa_cons (pv 2) (pa_cons (pv 3) (pa_cons (pv 6) (pa_cons (pv 10) pa_nil)))))))
  (pss_cons (ps_if (pt_val (pv 9))
    (pss_cons (ps_asg (pv 10) (pg_sub (pv 8) (pv 6) (Wk.pset_own c_Space___setitem__ hsq hr (by first | decide | omega))))
      (pss_one (ps_ret pe_bl)))
    pss_nil)
  (pss_one (ps_ret (pe_cmpR op_isN1 (C8.pe_mt c_Space_write hr (by first | decide | omega) (pv 8) (pa_cons (pv 6) (pa_cons (pv 10) pa_nil))) pe_non (nomark _))))))))))))))), ?_⟩
    have hsl : 2000 < sizeLine := by rw [sizeLine_eq]; decide
    have hwho : W.sp[L1.length]? = some r := by rw [esp, List.getElem?_append_right (Nat.le_refl _), Nat.sub_self]; rfl
    have hm : r ∈ W.sp := List.mem_of_getElem? hwho
    have t := ok.k.tok (T := r.T) (List.mem_map_of_mem hm)
    have t1 := t.n1
    have t16 := t.n16
    have hl : (tbV r.T).length = r.T.length := List.length_map ..
    have hwv : (W.sp.map raV)[L1.length]? = some (.ref r.ra) := by rw [List.getElem?_map, hwho]; rfl
    have pm := wQ_perm (C := C) (CS := CS) (R := R) esp
    have h1 := hh.perm (List.Perm.append_left [stoC st c, scrC c, tblC tP, lstC sl (W.sp.map raV), tupC ca (clV kk)] pm)
    replace h1 : Hd H (stoC st c :: scrC c :: tblC tP :: lstC sl (W.sp.map raV) :: tupC ca (clV kk) :: (frB C W.A W.S W.ps ++ (spI CS r.s W.A.F r.ta false :: lstC r.ta (tbV r.T) :: lstC r.ra [.ref r.s, .ref r.la] :: lstC r.la (tbV r.T) :: (wdB W.wa W.ws ++ (spQs CS W.A.F L1 ++ (spQs CS W.A.F L2 ++ R)))))) := h1
    clear hh
    have inW : ∀ {c1 c2 c3 c4 c5 c6 c7 c8 c9 x : Cell} {X Y : List Cell}, x ∈ wdB W.wa W.ws → x ∈ c1 :: c2 :: c3 :: c4 :: c5 :: (X ++ (c6 :: c7 :: c8 :: c9 :: (wdB W.wa W.ws ++ Y))) := fun h => .tail _ (.tail _ (.tail _ (.tail _ (.tail _ (List.mem_append_right _ (.tail _ (.tail _ (.tail _ (.tail _ (List.mem_append_left _ h))))))))))
    cases kk with
    | fk who => cases hrw
    | cl who => cases hrw
    | rd who a =>
      dsimp only [clV] at h1 q
      have fold : ∀ {H : Hp}, Hd H (stoC st c :: scrC c :: tblC tP :: lstC sl (W.sp.map raV) :: tupC ca [.str "read", .int who, .int a] :: (frB C W.A W.S W.ps ++ (spI CS r.s W.A.F r.ta false :: lstC r.ta (tbV r.T) :: lstC r.ra [.ref r.s, .ref r.la] :: lstC r.la (tbV r.T) :: (wdB W.wa W.ws ++ (spQs CS W.A.F L1 ++ (spQs CS W.A.F L2 ++ R)))))) → Q (.bl true) H := fun h => q W _ ok rfl rfl rfl ⟨r.T, rfl, esp⟩ (h.perm (List.Perm.append_left [stoC st c, scrC c, tblC tP, lstC sl (W.sp.map raV), tupC ca [.str "read", .int who, .int a]] pm.symm))
      walk_at "gs"
      rw [hl, show ((a : Int) % (8 * (r.T.length : Int))) = ((a % (8 * r.T.length) : Nat) : Int) from by rw [Int.natCast_emod, Int.natCast_mul]; rfl]
      have hlt : a % (8 * r.T.length) < 8 * r.T.length := Nat.mod_lt _ (by omega)
      generalize a % (8 * r.T.length) = ad at *
      refine ⟨sl, W.wa, W.sp, r, L1.length, ad, W.S, W.ws, _, rfl, hwho, by walk_at "mem", ⟨by walk_at "mem", by walk_at "mem"⟩, inW (.head _), fun h => inW (.tail _ (pgC_mem h)), ok.p, t, hlt, h1, ?_⟩
      walk_at "gs"
      rename_i k1 H2 hk1 h2
      clear h1
      refine w_ite (fun eb => ?_) (fun eb => ?_)
      · walk_at "gs"
        refine g_ixOwn h2 (by walk_at "mem") ?_
        refine ⟨r.s, W.A, r.ta, W.S, W.ps, r.T, ad, stoC st c :: scrC c :: tblC tP :: lstC sl (W.sp.map raV) :: tupC ca [.str "read", .int who, .int a] :: lstC r.ra [.ref r.s, .ref r.la] :: lstC r.la (tbV r.T) :: (wdB W.wa W.ws ++ (spQs CS W.A.F L1 ++ (spQs CS W.A.F L2 ++ R))), rfl, ok.k.f, t, hlt, Hd.sb h2 (by walk_at "sbx"), fun H3 h3 => ?_⟩
        clear h2
        walk_at "gs"
        refine u_alike (n := 2) (d := .int _) .int .int ?_
        exact fold (Hd.sb h3 (by walk_at "sbx"))
      · walk_at "gs"
        refine ⟨r.s, W.A, r.ta, W.S, W.ps, r.T, ad, stoC st c :: scrC c :: tblC tP :: lstC sl (W.sp.map raV) :: tupC ca [.str "read", .int who, .int a] :: lstC r.ra [.ref r.s, .ref r.la] :: lstC r.la (tbV r.T) :: (wdB W.wa W.ws ++ (spQs CS W.A.F L1 ++ (spQs CS W.A.F L2 ++ R))), rfl, ok.k.f, t, hlt, Hd.sb h2 (by walk_at "sbx"), fun H3 h3 => ?_⟩
        clear h2
        walk_at "gs"
        refine u_alike (n := 2) (d := .int _) .int .int ?_
        exact fold (Hd.sb h3 (by walk_at "sbx"))
    | wr who a x =>
      dsimp only [clV] at h1 q
      walk_at "gs"
      rw [hl, show ((a : Int) % (8 * (r.T.length : Int))) = ((a % (8 * r.T.length) : Nat) : Int) from by rw [Int.natCast_emod, Int.natCast_mul]; rfl]
      have hlt : a % (8 * r.T.length) < 8 * r.T.length := Nat.mod_lt _ (by omega)
      generalize a % (8 * r.T.length) = ad at *
      refine ⟨sl, W.wa, W.sp, r, L1.length, ad, W.S, W.ws, _, rfl, hwho, by walk_at "mem", ⟨by walk_at "mem", by walk_at "mem"⟩, inW (.head _), fun h => inW (.tail _ (pgC_mem h)), ok.p, t, hlt, h1, ?_⟩
      walk_at "gs"
      rename_i k1 H2 hk1 h2
      clear h1
      have hva : 0 ≤ valAt W.S r.T ad ∧ valAt W.S r.T ad ≤ 65535 := by
        obtain ⟨vl, vw⟩ := valS_len ok.k.f t (L := r.T) fun o h => h
        have e := val_at ok.k.f t hlt
        rw [List.getD_eq_getElem?_getD, List.getElem?_eq_getElem (by omega)] at e
        rw [← e]
        exact vw _ (List.getElem_mem _)
      show C8.tCut _ _ _ _ _
      refine w_cut (fun σ H => ∃ x' : Int, σ = [some (.ref st), some (.ref sl), some (.ref W.wa), some (.int L1.length), some (.ref ca), some (.ref r.ra), some (.int ad), some (.int (valAt W.S r.T ad)), some (.ref r.s), some (.bl (decide ((k1 : Int) = 0))), some (.int x')] ∧ 0 ≤ x' ∧ x' ≤ 65535 ∧ Hd H (stoC st c :: scrC c :: tblC tP :: lstC sl (W.sp.map raV) :: tupC ca [.str "write", .int who, .int a, .int x] :: (frB C W.A W.S W.ps ++ (spI CS r.s W.A.F r.ta false :: lstC r.ta (tbV r.T) :: lstC r.ra [.ref r.s, .ref r.la] :: lstC r.la (tbV r.T) :: (wdB W.wa W.ws ++ (spQs CS W.A.F L1 ++ (spQs CS W.A.F L2 ++ R))))))) ?_ ?_
      · walk_at "gs"
        rename_i k2 H3 hk2 h3
        refine w_ite (fun eb => ?_) (fun eb => ?_)
        · walk_at "gs"
          exact ⟨_, rfl, hva.1, hva.2, h3⟩
        · walk_at "gs"
          exact ⟨_, rfl, by omega, by exact Int.ofNat_le.mpr hck, h3⟩
      rintro σ H3 ⟨x', rfl, x0, x1, h3⟩
      clear h2
      have rm : Room1 W.S r.T (ad / 8) := by
        have hk := ok.k
        have hc := cap
        rw [esp, List.map_append, List.map_cons] at hk hc
        exact room_of hk hc (by omega)
      have hk := ok.k
      rw [esp, List.map_append, List.map_cons] at hk
      have k0 := own_k (p := ad / 8) ok.k.f t rm
      obtain ⟨wl1, wl2⟩ := wr_len (x := x') ok.k.f t hlt rm
      walk_at "gs"
      refine ⟨sl, W.wa, W.sp, L1, L2, r, L1.length, ad, x', W.S, W.ps, W.ws, stoC st c :: scrC c :: tblC tP :: lstC sl (W.sp.map raV) :: tupC ca [.str "write", .int who, .int a, .int x] :: (frB C W.A W.S W.ps ++ (spI CS r.s W.A.F r.ta false :: lstC r.ta (tbV r.T) :: lstC r.ra [.ref r.s, .ref r.la] :: (spQs CS W.A.F L1 ++ (spQs CS W.A.F L2 ++ R)))), rfl, esp, rfl, ok.k, ok.p, rm, hlt, by walk_at "mem", fun g hg => ?_, fun g hg => ?_, Hd.sb h3 (by walk_at "sbx"), fun ws' H4 pk' h4 => ?_⟩
      · rw [esp] at hg
        rcases List.mem_append.mp hg with z | z
        · have := (spQs_in (CS := CS) (F := W.A.F) z).2.2.1
          exact .tail _ (.tail _ (.tail _ (.tail _ (.tail _ (List.mem_append_right _ (.tail _ (.tail _ (.tail _ (List.mem_append_left _ this)))))))))
        · rcases List.mem_cons.mp z with z | z
          · rw [z]; walk_at "mem"
          · have := (spQs_in (CS := CS) (F := W.A.F) z).2.2.1
            exact .tail _ (.tail _ (.tail _ (.tail _ (.tail _ (List.mem_append_right _ (.tail _ (.tail _ (.tail _ (List.mem_append_right _ (List.mem_append_left _ this))))))))))
      · rcases List.mem_append.mp hg with z | z
        · have := (spQs_in (CS := CS) (F := W.A.F) z).2.2.2
          exact .tail _ (.tail _ (.tail _ (.tail _ (.tail _ (List.mem_append_right _ (.tail _ (.tail _ (.tail _ (List.mem_append_left _ this)))))))))
        · have := (spQs_in (CS := CS) (F := W.A.F) z).2.2.2
          exact .tail _ (.tail _ (.tail _ (.tail _ (.tail _ (List.mem_append_right _ (.tail _ (.tail _ (.tail _ (List.mem_append_right _ (List.mem_append_left _ this))))))))))
      clear h3
      have fin : ∀ {ps' : List Pg} {H : Hp}, FOk (wrS W.S r.T ad x').1 ps' → Hd H (tblC tP :: (frB C W.A (wrS W.S r.T ad x').1 ps' ++ (spI CS r.s W.A.F r.ta false :: lstC r.ta (tbV (wrS W.S r.T ad x').2) :: lstC r.la (tbV (wrS W.S r.T ad x').2) :: stoC st c :: scrC c :: lstC sl (W.sp.map raV) :: tupC ca [.str "write", .int who, .int a, .int x] :: lstC r.ra [.ref r.s, .ref r.la] :: (wdB W.wa ws' ++ (spQs CS W.A.F L1 ++ (spQs CS W.A.F L2 ++ R)))))) → Q (.bl true) H := by
        intro ps' H kf h
        have wk := (w_write hk hlt rm k0 kf).1
        refine q ⟨W.A, (wrS W.S r.T ad x').1, ps', W.wa, ws', L1 ++ { r with T := (wrS W.S r.T ad x').2 } :: L2⟩ H ⟨by simpa using wk, pk'⟩ rfl rfl wl1 ⟨_, wl2, rfl⟩ ?_
        have pm2 := wQ_perm (C := C) (CS := CS) (R := R) (W := ⟨W.A, (wrS W.S r.T ad x').1, ps', W.wa, ws', L1 ++ { r with T := (wrS W.S r.T ad x').2 } :: L2⟩) rfl
        refine Hd.perm ?_ (List.Perm.append_left [stoC st c, scrC c, tblC tP, lstC sl (W.sp.map raV), tupC ca [.str "write", .int who, .int a, .int x]] pm2.symm)
        exact Hd.sb (A := stoC st c :: scrC c :: tblC tP :: lstC sl (W.sp.map raV) :: tupC ca [.str "write", .int who, .int a, .int x] :: (frB C W.A (wrS W.S r.T ad x').1 ps' ++ (spI CS r.s W.A.F r.ta false :: lstC r.ta (tbV (wrS W.S r.T ad x').2) :: lstC r.ra [.ref r.s, .ref r.la] :: lstC r.la (tbV (wrS W.S r.T ad x').2) :: (wdB W.wa ws' ++ (spQs CS W.A.F L1 ++ (spQs CS W.A.F L2 ++ R)))))) h (by walk_at "sbx")
      walk_at "gs"
      refine w_ite (fun eb => ?_) (fun eb => ?_)
      · walk_at "gs"
        refine g_setOwn h4 (by walk_at "mem") ?_
        refine ⟨r.s, W.A, r.ta, W.S, W.ps, r.T, ad, x', lstC r.la (tbV (wrS W.S r.T ad x').2) :: stoC st c :: scrC c :: lstC sl (W.sp.map raV) :: tupC ca [.str "write", .int who, .int a, .int x] :: lstC r.ra [.ref r.s, .ref r.la] :: (wdB W.wa ws' ++ (spQs CS W.A.F L1 ++ (spQs CS W.A.F L2 ++ R))), rfl, ok.k.f, t, hlt, x0, x1, rm, Hd.sb h4 (by walk_at "sbx"), fun ps' H5 kf h5 => ?_⟩
        walk_at "gs"
        exact fin kf h5
      · walk_at "gs"
        refine ⟨r.s, W.A, r.ta, W.S, W.ps, r.T, ad, x', lstC r.la (tbV (wrS W.S r.T ad x').2) :: stoC st c :: scrC c :: lstC sl (W.sp.map raV) :: tupC ca [.str "write", .int who, .int a, .int x] :: lstC r.ra [.ref r.s, .ref r.la] :: (wdB W.wa ws' ++ (spQs CS W.A.F L1 ++ (spQs CS W.A.F L2 ++ R))), rfl, ok.k.f, t, hlt, x0, x1, rm, Hd.sb h4 (by walk_at "sbx"), fun ps' H5 kf h5 => ?_⟩
        walk_at "gs"
        rw [decide_eq_true rfl]
        exact fin kf h5
end
end
end K05
set_option Elab.async false
set_option linter.all false
set_option maxRecDepth 100000
set_option maxHeartbeats 4000000
namespace K05
open PySem PySem.Spec PyProof.Rows L2 Wk
local macro_rules | `(tactic| walk_at "u1") => `(tactic| fail "no more")
local macro_rules | `(tactic| walk_at "pos") => `(tactic| first | assumption | omega | decide | (simp only [Int.ofNat_eq_natCast] at *; omega))
local macro_rules | `(tactic| walk_at "sz") => `(tactic| first
  | (simp only [List.length_cons, List.length_nil]; decide)
  | exact Evl.sz_of (by omega)
  | exact Evl.sz_lt (by omega)
  | exact Evl.sz_of (by simp only [List.length_map, List.length_append, List.length_cons, List.length_nil, List.length_replicate]; omega)
  | exact Evl.sz_lt (by simp only [List.length_map, List.length_append, List.length_cons, List.length_nil, List.length_replicate]; omega))
local macro_rules | `(tactic| walk_at "cond") => `(tactic| first
  | exact Or.inr ⟨by decide, by decide⟩
  | (show (0 : Int) < _; first | decide | assumption | omega)
  | exact Or.inl ⟨by omega, by omega⟩
  | exact Or.inr ⟨by omega, by omega⟩
  | exact ⟨by decide, by decide, by decide⟩
  | exact log2_lt (by omega) (by omega)
  | exact ⟨by omega, by omega⟩)
local macro_rules | `(tactic| walk_at "ty") => `(tactic| first
  | exact ty_int | exact ty_bl | exact ty_str | exact ty_non
  | exact ty_L (by assumption) | exact ty_T (by assumption)
  | exact ty_L (SqL.of (by assumption)) | exact ty_T (SqT.of (by assumption)))
local macro_rules | `(tactic| walk_at "kit") => `(tactic| first
  | exact k_ii | exact k_ib | exact k_is | exact k_il | exact k_it
  | exact k_bb | exact k_bi | exact k_bs | exact k_bl | exact k_bt
  | exact k_ss | exact k_sb | exact k_si | exact k_sl | exact k_st
  | exact k_ll | exact k_lb | exact k_li | exact k_ls | exact k_lt
  | exact k_tt | exact k_tb | exact k_ti | exact k_ts | exact k_tl
  | exact k_nn | exact k_ni | exact k_ns | exact k_nl | exact k_nt)
local macro_rules | `(tactic| walk_at "s1") => `(tactic| first
  | with_reducible refine w_seq ?_
  | with_reducible refine w_set ?_
  | with_reducible refine w_op ?_
  | ((with_reducible refine' w_var ?h1 ?_); (case h1 => rfl))
  | with_reducible refine w_c ?_
  | with_reducible refine w_cb ?_
  | with_reducible refine w_cons ?_
  | with_reducible refine w_nil ?_
  | with_reducible refine w_I0 ?_
  | ((with_reducible refine' w_I ?c1 ?_); case c1 => walk_at "cond")
  | with_reducible refine w_ret ?_
  | with_reducible refine w_next ?_
  | with_reducible refine w_ifS ?_
  | with_reducible refine w_test ?_
  | with_reducible refine w_tB ?_
  | with_reducible refine w_k ?_
  | with_reducible refine w_eqI ?_
  | with_reducible refine w_neI ?_
  | with_reducible refine w_eqS ?_
  | with_reducible refine w_neS ?_
  | with_reducible refine w_and ?_
  | with_reducible refine w_or ?_
  | with_reducible refine w_not ?_
  | with_reducible refine w_andV ?_
  | with_reducible refine w_orV ?_
  | with_reducible refine w_notV ?_
  | with_reducible refine w_ifE ?_
  | with_reducible refine w_true ?_
  | with_reducible refine w_false ?_
  | with_reducible refine w_ntrue ?_
  | with_reducible refine w_nfalse ?_
  | with_reducible refine w_call ?_
  | with_reducible refine c_int ?_
  | with_reducible refine c_abs ?_
  | with_reducible refine c_max ?_
  | with_reducible refine c_min ?_
  | with_reducible refine w_drop ?_
  | with_reducible refine w_sfld ?_
  | with_reducible refine w_meth ?_
  | with_reducible refine w_make ?_
  | with_reducible refine w_prop ?_
  | with_reducible refine w_callK ?_
  | with_reducible refine w_callN ?_
  | with_reducible refine w_star ?_
  | with_reducible refine w_gcons ?_
  | with_reducible refine w_gname ?_
  | with_reducible refine w_gnil ?_
  | with_reducible refine w_retN ?_
  | with_reducible refine w_tup ?_
  | with_reducible refine w_lst ?_
  | with_reducible refine w_fld ?_
  | with_reducible refine w_bm ?_
  | with_reducible refine w_bm0 ?_
  | with_reducible refine w_forL ?_
  | with_reducible refine w_forT ?_
  | with_reducible refine w_forS ?_
  | with_reducible refine w_forR ?_
  | with_reducible refine w_lcR ?_
  | with_reducible refine w_lcL ?_
  | with_reducible refine w_lcT ?_
  | with_reducible refine w_isN ?_
  | with_reducible refine w_notN ?_
  | with_reducible refine w_asg ?_
  | with_reducible refine w_gsub ?_
  | ((with_reducible refine' w_aug ?h1 ?_); (case h1 => rfl))
  | with_reducible refine w_augS ?_
  | with_reducible refine w_ipI ?_
  | with_reducible refine w_un ?_
  | with_reducible refine w_U ?_
  | ((with_reducible refine' w_iteF ?f1 ?_); case f1 => (first | (intro h; cases h; done) | decide))
  | ((with_reducible refine' w_iteT ?f1 ?_); case f1 => rfl)
  | ((with_reducible refine' w_iteNF ?f1 ?_); case f1 => rfl)
  | ((with_reducible refine' w_iteNT ?f1 ?_); case f1 => (first | (intro h; cases h; done) | decide))
  | ((with_reducible refine' c_isi ?t1 ?k1 ?_); (case t1 => walk_at "ty"); (case k1 => walk_at "kit"))
  | ((with_reducible refine' w_eq ?e1 ?_); case e1 => rfl)
  | ((with_reducible refine' w_ne ?e1 ?_); case e1 => rfl)
  | walk_at "u1")
local macro_rules | `(tactic| walk_at "s") => `(tactic| repeat walk_at "s1")
local macro_rules | `(tactic| walk_at "mem") => `(tactic| first | with_reducible exact List.mem_cons_self .. | ((with_reducible refine' List.mem_cons_of_mem _ ?q); (case q => walk_at "mem")) | assumption | ((with_reducible refine' List.mem_append_right _ ?q); (case q => walk_at "mem")) | (exact List.mem_append_left _ (by assumption)))
local macro_rules | `(tactic| walk_at "pk") => `(tactic| first | with_reducible exact Pk.here | ((with_reducible refine' Pk.there ?q); (case q => walk_at "pk")) | ((with_reducible refine' Pk.app ?q); (case q => walk_at "pk")))
local macro_rules | `(tactic| walk_at "pkb") => `(tactic| first | with_reducible exact PkB.here | ((with_reducible refine' PkB.there ?q); (case q => walk_at "pkb")) | ((with_reducible refine' PkB.app ?q); (case q => walk_at "pkb")))
local macro_rules | `(tactic| walk_at "spl") => `(tactic| first | with_reducible exact Spl.nil | ((with_reducible refine' Spl.cons ?h ?t); (case h => walk_at "pk"); (case t => walk_at "spl")) | ((with_reducible refine' Spl.blk ?h ?t); (case h => walk_at "pkb"); (case t => walk_at "spl")))
local macro_rules | `(tactic| walk_at "sbx") => `(tactic| first | with_reducible exact Sb.refl | with_reducible exact Sb.nil | with_reducible exact Sb.left | ((with_reducible refine' Sb.cons ?h ?t); (case h => walk_at "pk"); (case t => walk_at "sbx")) | ((with_reducible refine' Sb.blk ?h ?t); (case h => walk_at "pkb"); (case t => walk_at "sbx")) | ((with_reducible refine' Sb.drop ?q); (case q => walk_at "sbx")) | ((with_reducible refine' Sb.right ?q); (case q => walk_at "sbx")))
local macro_rules | `(tactic| walk_at "hd") => `(tactic| first | assumption | exact Hd.sb (by assumption) (by walk_at "sbx"))
local macro_rules | `(tactic| walk_at "sq") => `(tactic| first
  | assumption
  | exact Hd.sqL (by assumption) (by walk_at "mem")
  | exact Hd.sqT (by assumption) (by walk_at "mem")
  | exact Hd.sqF (by assumption) (by walk_at "mem")
  | (refine .inl ?_; walk_at "sq")
  | (refine .inr ?_; walk_at "sq"))
local macro_rules | `(tactic| walk_at "at") => `(tactic| first | rfl | assumption | exact atI_nat (by assumption))
local macro_rules | `(tactic| walk_at "dn1") => `(tactic| first
  | exact Dn.int | exact Dn.str | exact Dn.non | exact Dn.bl | assumption
  | ((refine' Dn.tp ?a1 ?m1 ?l1 ?p1); (case a1 => assumption); (case m1 => walk_at "mem"); (case l1 => (simp only [List.length_cons, List.length_nil]; omega)); (case p1 => walk_at "dns"))
  | ((refine' Dn.lt ?a1 ?m1 ?l1 ?p1); (case a1 => assumption); (case m1 => walk_at "mem"); (case l1 => (simp only [List.length_cons, List.length_nil]; omega)); (case p1 => walk_at "dns")))
local macro_rules | `(tactic| walk_at "dns") => `(tactic| first | exact Paired.nil | exact Dn.ints | ((refine' Paired.cons ?a1 ?b1); (case a1 => walk_at "dn1"); (case b1 => walk_at "dns")))
local macro_rules | `(tactic| walk_at "g1") => `(tactic| first
  | ((with_reducible refine' g_ixI ?h1 ?h2 ?h3 ?_); (case h1 => assumption); (case h2 => walk_at "mem"); (case h3 => omega); intro z hz)
  | ((with_reducible refine' g_ixIT ?h1 ?h2 ?h3 ?_); (case h1 => assumption); (case h2 => walk_at "mem"); (case h3 => omega); intro z hz)
  | ((with_reducible refine' g_setI ?h1 ?h2 ?h3 ?_); (case h1 => assumption); (case h2 => walk_at "pk"); (case h3 => omega); intro H2 hh2)
  | ((with_reducible refine' w_ixL ?h1 ?h2 ?_); (case h1 => walk_at "sq"); (case h2 => walk_at "at"))
  | ((with_reducible refine' w_ixT ?h1 ?h2 ?_); (case h1 => walk_at "sq"); (case h2 => walk_at "at"))
  | ((with_reducible refine' w_ixAny ?h1 ?h2 ?_); (case h1 => walk_at "sq"); (case h2 => walk_at "at"))
  | ((with_reducible refine' c_lenA ?h1 ?_); (case h1 => walk_at "sq"))
  | ((with_reducible refine' c_isi ?t1 ?k1 ?_); (case t1 => first | exact ty_T (by walk_at "sq") | exact ty_L (by walk_at "sq")); (case k1 => walk_at "kit"))
  | ((with_reducible refine' g_lst ?h1 ?h2 ?_); (case h1 => assumption); (case h2 => walk_at "sz"); intro p H2 hh2)
  | ((with_reducible refine' g_tup ?h1 ?h2 ?_); (case h1 => assumption); (case h2 => walk_at "sz"); intro p H2 hh2)
  | ((with_reducible refine' g_dict ?h1 ?_); (case h1 => assumption); intro p H2 hh2)
  | ((with_reducible refine' g_listL ?h1 ?h2 ?_); (case h1 => assumption); (case h2 => walk_at "sq"); intro p H2 hh2)
  | ((with_reducible refine' g_listT ?h1 ?h2 ?_); (case h1 => assumption); (case h2 => walk_at "sq"); intro p H2 hh2)
  | ((with_reducible refine' g_tupL ?h1 ?h2 ?_); (case h1 => assumption); (case h2 => walk_at "sq"); intro p H2 hh2)
  | ((with_reducible refine' g_set ?h1 ?h2 ?h3 ?_); (case h1 => assumption); (case h2 => walk_at "pk"); (case h3 => first | rfl | assumption | exact Evl.ixN_nat (by first | omega | (simp only [List.length_cons, List.length_nil]; omega))); intro H2 hh2)
  | ((with_reducible refine' g_kbm ?h1 ?h2 ?_); (case h1 => assumption); (case h2 => walk_at "mem"))
  | ((with_reducible refine' g_kbm0 ?h1 ?h2 ?_); (case h1 => assumption); (case h2 => walk_at "mem"))
  | ((with_reducible refine' g_app ?h1 ?h2 ?h3 ?_); (case h1 => assumption); (case h2 => walk_at "pk"); (case h3 => walk_at "sz"); intro H2 hh2)
  | ((with_reducible refine' g_kapp ?h1 ?h2 ?h3 ?_); (case h1 => assumption); (case h2 => walk_at "pk"); (case h3 => walk_at "sz"); intro H2 hh2)
  | ((with_reducible refine' g_fld ?h1 ?h2 ?h3 ?h4 ?h5 ?_); (case h1 => assumption); (case h2 => walk_at "mem"); (case h3 => assumption); (case h4 => assumption); (case h5 => rfl))
  | ((with_reducible refine' g_sfld ?h1 ?h2 ?h3 ?h4 ?h5 ?_); (case h1 => assumption); (case h2 => walk_at "pk"); (case h3 => assumption); (case h4 => assumption); (case h5 => decide); intro H2 hh2)
  | ((with_reducible refine' g_meth ?h1 ?h2 ?h3 ?_); (case h1 => assumption); (case h2 => walk_at "mem"); (case h3 => rfl))
  | ((with_reducible refine' g_prop ?h1 ?h2 ?_); (case h1 => assumption); (case h2 => walk_at "mem"))
  | ((with_reducible refine' g_make ?h1 ?_); (case h1 => assumption); intro x H2 hh2)
  | ((with_reducible refine' g_cat ?h1 ?h2 ?h3 ?h4 ?_); (case h1 => assumption); (case h2 => walk_at "mem"); (case h3 => walk_at "mem"); (case h4 => walk_at "sz"); intro p H2 hh2)
  | ((with_reducible refine' g_inT ?h1 ?h2 ?h3 ?h4 ?h5 ?_); (case h1 => assumption); (case h2 => walk_at "mem"); (case h3 => rfl); (case h4 => rfl); (case h5 => rfl)))
local macro_rules | `(tactic| walk_at "gs") => `(tactic| repeat first | walk_at "s1" | walk_at "g1")
local macro_rules | `(tactic| walk_at "ite") => `(tactic| first
  | ((with_reducible refine' w_iteT ?h1 ?_); (case h1 => omega))
  | ((with_reducible refine' w_iteF ?h1 ?_); (case h1 => omega))
  | (with_reducible refine w_ite ?_ ?_ <;> intro hq)
  | ((with_reducible refine' w_iteNT ?h1 ?_); (case h1 => omega))
  | ((with_reducible refine' w_iteNF ?h1 ?_); (case h1 => omega))
  | (with_reducible refine w_iteN ?_ ?_ <;> intro hq))
local macro_rules | `(tactic| walk_at "go") => `(tactic| repeat' first | walk_at "s1" | walk_at "g1" | walk_at "ite")
local macro_rules | `(tactic| walk_at "g1") => `(tactic| first
  | ((with_reducible refine' g_take1 ?h1 ?h2 ?h3 ?h4 ?_); (case h1 => assumption); (case h2 => walk_at "spl"); (case h3 => omega); (case h4 => omega); intro k H2 hk1 hh2)
  | ((with_reducible refine' g_take ?h1 ?h2 ?h4 ?_); (case h1 => assumption); (case h2 => walk_at "spl"); (case h4 => omega); intro k H2 hk1 hh2)
  | ((with_reducible refine' g_betweenN ?h1 ?h2 ?h5 ?h3 ?h4 ?_); (case h1 => assumption); (case h2 => walk_at "spl"); (case h5 => omega); (case h3 => omega); (case h4 => omega); intro k H2 hk1 hk2 hh2)
  | ((with_reducible refine' g_between ?h1 ?h2 ?h3 ?h4 ?_); (case h1 => assumption); (case h2 => walk_at "spl"); (case h3 => omega); (case h4 => omega); intro k H2 hk1 hk2 hh2)
  | ((with_reducible refine' g_size ?h1 ?h2 ?h3 ?h4 ?_); (case h1 => assumption); (case h2 => walk_at "spl"); (case h3 => omega); (case h4 => omega); intro k H2 hk1 hh2)
  | ((with_reducible refine' g_word ?h1 ?h2 ?_); (case h1 => assumption); (case h2 => walk_at "spl"); intro k H2 hk1 hh2))
local macro_rules | `(tactic| walk_at "g1") => `(tactic| first | with_reducible refine w_sl ?_ | with_reducible refine w_part ?_ | with_reducible refine w_noPart ?_ | with_reducible refine w_exI ?_)
section
variable {P : Program} {w : World} {K : PySem.W.Frag} {mg : Str → Option Value} {base : Heap} {aREG aOPS : Addr}
theorem flat_le : ∀ {Ts : List Tb} {m : Nat}, (∀ T ∈ Ts, T.length ≤ m) → Ts.flatten.length ≤ Ts.length * m
  | [], _, _ => Nat.zero_le _
  | T :: Ts, m, h => by
    have := flat_le (Ts := Ts) (m := m) fun T hT => h T (.tail _ hT)
    have := h T (.head _)
    rw [List.flatten_cons, List.length_append, List.length_cons, Nat.succ_mul]
    omega
theorem tb_new : ∀ {n : Nat}, tbV (List.replicate n none) = List.replicate n V.non := fun {n} => by simp [tbV, tV]
def whoK : CL → Nat
  | .wr w _ _ => w
  | .rd w _ => w
  | .fk w => w
  | .cl w => w
theorem pgC_non : ∀ n : Nat, pgC (List.replicate n none) = []
  | 0 => rfl
  | n + 1 => pgC_non n
theorem pg_add {S : St1} {ws : List Pg} {T : Tb} (p : PgOk S ws) (t : TOk S T) : PgOk (addT S T) ws := by
  refine ⟨by rw [add_len]; exact p.1, fun g hg h0 => ?_⟩
  rw [add_len] at hg
  obtain ⟨ha, hw⟩ := add_at (S := S) (T := T) (fun f hf => (t.e f hf).1) g
  rw [hw]
  refine p.2 g hg ?_
  rw [ha] at h0
  rcases Nat.eq_zero_or_pos (T.count (some g)) with z | z
  · omega
  · exact (t.e g (List.count_pos_iff.mp z)).2
theorem pg_sub {S : St1} {ws : List Pg} {T : Tb} (p : PgOk S ws) (t : TOk S T) : PgOk (subT S T) ws := by
  refine ⟨by rw [sub_len]; exact p.1, fun g hg h0 => ?_⟩
  rw [sub_len] at hg
  obtain ⟨ha, hw⟩ := sub_at (S := S) (T := T) (fun f hf => (t.e f hf).1) g
  rw [hw]
  exact p.2 g hg (by omega)
theorem er_mid {α : Type} {y : α} : ∀ {xs zs : List α}, (xs ++ y :: zs).eraseIdx xs.length = xs ++ zs
  | [], _ => rfl
  | x :: xs, zs => by
    show x :: (xs ++ y :: zs).eraseIdx xs.length = _
    rw [er_mid]; rfl
theorem split_at {α : Type} {y : α} : ∀ {xs : List α} {i : Nat}, xs[i]? = some y → ∃ l m, xs = l ++ y :: m ∧ l.length = i
  | [], _, h => by simp at h
  | x :: xs, 0, h => ⟨[], xs, by simp at h; rw [h]; rfl, rfl⟩
  | x :: xs, i + 1, h => by
    obtain ⟨l, m, e, hl⟩ := split_at (xs := xs) (i := i) (by simpa using h)
    exact ⟨x :: l, m, by rw [e]; rfl, by rw [List.length_cons, hl]⟩
section
variable {C CS tP : Addr}
structure Inv5 (A : FA) (wa : Addr) (n top : Nat) (W : Wq) : Prop where
  fa : W.A = A
  fw : W.wa = wa
  ok : W.ok
  fn : W.S.length = n
  cap : 4 * top ≤ n
  len : ∀ r ∈ W.sp, r.T.length ≤ top
  s1 : 1 ≤ W.sp.length
  s4 : W.sp.length ≤ 4
theorem Inv5.flat {A : FA} {wa : Addr} {n top : Nat} {W : Wq} (h : Inv5 A wa n top W) : (W.sp.map SpQ.T).flatten.length ≤ W.S.length := by
  have := flat_le (Ts := W.sp.map SpQ.T) (m := top) fun T hT => by
    obtain ⟨r, hr, rfl⟩ := List.mem_map.mp hT
    exact h.len r hr
  rw [List.length_map] at this
  have h2 : W.sp.length * top ≤ 4 * top := Nat.mul_le_mul_right _ h.s4
  have := h.cap
  have := h.fn
  omega
def sp_law (K : PySem.W.Frag) (tP : Addr) : Sp := fun vs H Q _ => ∃ (a : Addr) (ns : List Int), vs = [.ref a] ∧ SqL K H a (ns.map V.int) ∧ ns.length ≤ 63 ∧ GxR.TabG H tP ∧ ∀ H', Q (.bl true) H'
theorem c_law {f : Addr} {fd : FuncData} (T : Txt K mg aREG aOPS) (LS : SpcC K CS) (d : FunT K "law" s_law f fd) (c__law_store : C8.Cal P w K mg base 1 "_law_store" (sp_store K) []) (c__law_take : C8.Cal P w K mg base 2 "_law_take" sp_take []) (c__law_size : C8.Cal P w K mg base 3 "_law_size" sp_size []) (c_Frames : C8.Mak P w K mg base 4 "Frames" C (sp_frI C) []) (ck_sp1 : MakP P w K mg base 4 "Space" CS (sp_spI CS) 1 ["pages"] (fun vs zs => vs ++ zs))
    (c__law_space_calls : C8.Cal P w K mg base 5 "_law_space_calls" sp_calls []) (c_Space_fork : C8.Met P w K mg base 6 CS "fork" (sp_fork C CS) []) (c_Space_close : C8.Met P w K mg base 6 CS "close" (sp_close C CS) []) (c__law_step : C8.Cal P w K mg base 11 "_law_step" (sp_qstep C CS tP) []) (c__law_looks : C8.Cal P w K mg base 6 "_law_looks" (sp_looks C CS) []) (c__law_whole : C8.Cal P w K mg base 7 "_law_whole" (sp_whole C CS) []) : FnOk P w K mg base CX0 12 f fd ["script"] (sp_law K tP) := by
  refine mkF d sc_law (fun vs H Q E h => ?_) (fun fa cdv A_ outer s H vs Q E hr h => ?_)
  · obtain ⟨a, ns, rfl, _⟩ := h
    rfl
  · obtain ⟨a, ns, rfl, ha, hn, hT, q⟩ := h
    have hsl : 2000 < sizeLine := by rw [sizeLine_eq]; decide
    refine ⟨_, (pss_cons (ps_set (i := 1) sc_law.nd rfl (Or.inl rfl) (C8.pe_c c__law_store hr (by first | decide | omega) rfl (pa_cons (pv 0) (pa_cons pe_int pa_nil))))
  (pss_cons (ps_set (i := 2) sc_law.nd rfl (Or.inl rfl) (pe_lst (pa_cons (pe_op op_add pe_int (C8.pe_c c__law_size hr (by first | decide | omega) rfl (pa_cons (pv 1) (pa_cons pe_int pa_nil)))) (pa_cons (pe_op op_add pe_int (C8.pe_c c__law_size hr (by first | decide | omega) rfl (pa_cons (pv 1) (pa_cons pe_int pa_nil)))) pa_nil))))
  (pss_cons (ps_set (i := 3) sc_law.nd rfl (Or.inl rfl) (pe_ix ix_list (pv 2) pe_int (fun _ _ => rfl)))
  (C8.pss_cut (ps_if (pt_cmpR op_gt (pe_ix ix_list (pv 2) pe_int (fun _ _ => rfl)) (pv 3) (nomark _))
    (pss_one (ps_set (i := 3) sc_law.nd rfl (Or.inl rfl) (pe_ix ix_list (pv 2) pe_int (fun _ _ => rfl))))
    pss_nil)
  (pss_cons (ps_set (i := 4) sc_law.nd rfl (Or.inl rfl) (pe_op op_mul pe_int (pv 3)))
  (C8.pss_cut (ps_if (pt_cmpR op_eq (C8.pe_c c__law_take hr (by first | decide | omega) rfl (pa_cons (pv 1) (pa_cons pe_int pa_nil))) pe_int (nomark _))
    (pss_one (ps_set (i := 4) sc_law.nd rfl (Or.inl rfl) (pe_op op_add (pv 4) (C8.pe_c c__law_take hr (by first | decide | omega) rfl (pa_cons (pv 1) (pa_cons (pe_op op_sub pe_int (pv 4)) pa_nil))))))
    pss_nil)
  (pss_cons (ps_set (i := 5) sc_law.nd rfl (Or.inr rfl) (C8.pe_mk c_Frames hr (by first | decide | omega) rfl (pa_cons (pv 4) pa_nil)))
  (pss_cons (ps_set (i := 6) sc_law.nd rfl (Or.inl rfl) (pe_op op_rep (pe_lst (pa_cons pe_non pa_nil)) (pv 4)))
  (pss_cons (ps_setLc (i := 7) (own := [("pages", 11)]) rfl sc_law.nd rfl rfl (sw_true rfl rfl rfl (by decide +kernel)) (pi_list (pv 2)) (blkOk_by (own := [("pages", 11)]) (N := nm_law) (sc := defScope s_law) (by decide +kernel)) (fun _ _ _ _ _ => (pg_name (i := 11) sc_law.nd rfl (Or.inl rfl))) (fun _ _ _ _ _ => pts_nil) (fun _ _ _ _ _ => (pe_lst (pa_cons (pe_mkP ck_sp1 hr (by first | decide | omega) rfl (pa_cons (pv 5) pa_nil) (pk_cons (pv 11) pk_nil)) (pa_cons (pe_op op_rep (pe_lst (pa_cons pe_non pa_nil)) (pv 11)) pa_nil)))))
  (pss_cons (ps_for PassesOwn.never rfl (pi_list (C8.pe_c c__law_space_calls hr (by first | decide | omega) rfl (pa_cons (pv 1) (pa_cons (pv 3) (pa_cons pe_int pa_nil))))) (pg_name (i := 8) sc_law.nd rfl (Or.inl rfl))
    (pss_cons (ps_set (i := 9) sc_law.nd rfl (Or.inl rfl) (pe_op op_mod (pe_callTy Wk.b_int (by rfl) T.b_int (by decide +kernel) (pa_cons (pe_ix ix_tup (pv 8) pe_int (fun _ _ => rfl)) pa_nil)) (pe_callB Wk.b_len (by rfl) T.b_len (by decide +kernel) (pa_cons (pv 7) pa_nil))))
      (pss_cons (ps_set (i := 10) sc_law.nd rfl (Or.inl rfl) (pe_ix ix_list (pv 7) (pv 9) (fun _ _ => rfl)))
      (C8.pss_cut (ps_if (pt_cmpR op_eq (pe_ix ix_tup (pv 8) pe_int (fun _ _ => rfl)) pe_str (nomark _))
        (pss_one (ps_if (pt_cmpR op_lt (pe_callB Wk.b_len (by rfl) T.b_len (by decide +kernel) (pa_cons (pv 7) pa_nil)) pe_int (nomark _))
            (pss_one (ps_expr (pe_bm PySem.F.plainAttrs_list PySem.F.slot_list_append PySem.F.type_list_append mt_append (pv 7) (pa_cons (pe_lst (pa_cons (C8.pe_mt0 c_Space_fork hr (by first | decide | omega) (pe_ix ix_list (pv 10) pe_int (fun _ _ => rfl))) (pa_cons (pe_callTy Wk.b_list (by rfl) T.b_list (by decide +kernel) (pa_cons (pe_ix ix_list (pv 10) pe_int (fun _ _ => rfl)) pa_nil)) pa_nil))) pa_nil))))
            pss_nil))
        (pss_one (ps_if (pt_cmpR op_eq (pe_ix ix_tup (pv 8) pe_int (fun _ _ => rfl)) pe_str (nomark _))
            (pss_cons (ps_if (pt_cmpR op_notN1 (C8.pe_mt0 c_Space_close hr (by first | decide | omega) (pe_ix ix_list (pv 10) pe_int (fun _ _ => rfl))) pe_non (nomark _))
                (pss_one (ps_ret pe_bl))
                pss_nil)
              (pss_cons (ps_expr (pe_bm PySem.F.plainAttrs_list PySem.F.slot_list_pop PySem.F.type_list_pop mt_popAt (pv 7) (pa_cons (pv 9) pa_nil)))
              (pss_one (ps_if (pt_cmpR op_eq (pe_callB Wk.b_len (by rfl) T.b_len (by decide +kernel) (pa_cons (pv 7) pa_nil)) pe_int (nomark _))
                (pss_one (ps_expr (pe_bm PySem.F.plainAttrs_list PySem.F.slot_list_append PySem.F.type_list_append mt_append (pv 7) (pa_cons (pe_lst (pa_cons (pe_mkP ck_sp1 hr (by first | decide | omega) rfl (pa_cons (pv 5) pa_nil) (pk_cons (pe_ix (show IxR _ (rIxL K) from ix_list) (pv 2) pe_int (fun _ _ => rfl)) pk_nil)) (pa_cons (pe_op op_rep (pe_lst (pa_cons pe_non pa_nil)) (pe_ix ix_list (pv 2) pe_int (fun _ _ => rfl))) pa_nil))) pa_nil))))
                pss_nil))))
            (pss_one (ps_if (pt_not (pt_val (C8.pe_c c__law_step hr (by first | decide | omega) rfl (pa_cons (pv 1) (pa_cons (pv 7) (pa_cons (pv 6) (pa_cons (pv 9) (pa_cons (pv 8) pa_nil))))))))
                (pss_one (ps_ret pe_bl))
                pss_nil)))))
      (pss_one (ps_if (pt_not (pt_val (C8.pe_c c__law_looks hr (by first | decide | omega) rfl (pa_cons (pv 5) (pa_cons (pv 7) (pa_cons (pv 4) (pa_cons (pe_lst (pa_cons (C8.pe_c c__law_take hr (by first | decide | omega) rfl (pa_cons (pv 1) (pa_cons (pe_callB (Wk.b_min rfl) (by rfl) T.b_min (by decide +kernel) (pa_cons (pv 4) (pa_cons pe_int pa_nil))) pa_nil))) (pa_cons (C8.pe_c c__law_take hr (by first | decide | omega) rfl (pa_cons (pv 1) (pa_cons (pv 4) pa_nil))) pa_nil))) pa_nil)))))))
        (pss_one (ps_ret pe_bl))
        pss_nil))))))
  (pss_one (ps_ret (C8.pe_c c__law_whole hr (by first | decide | omega) rfl (pa_cons (pv 5) (pa_cons (pv 7) (pa_cons (pv 6) (pa_cons (pv 4) pa_nil))))))))))))))))), ?_⟩
    have hh : Hd H [tblC tP] := let ⟨ps, e, t⟩ := hT; Hd.one (c := tblC tP) e ⟨ps, rfl, t⟩
    walk_at "gs"
    refine g_store hh ha hn (by omega) (by omega) fun st c H1 h1 => ?_
    clear hh
    walk_at "gs"
    rename_i k0 H2 hk0 h2 k1 H3 hk1 h3 sz H4 h4
    clear h1 h2 h3
    rw [show ((1 : Int) + (k0 : Int)) = ((1 + k0 : Nat) : Int) by omega] at h4 ⊢
    rw [show ((1 : Int) + (k1 : Int)) = ((1 + k1 : Nat) : Int) by omega] at h4
    have a01 : 1 ≤ 1 + k0 := by omega
    have a02 : 1 + k0 ≤ 16 := by omega
    have a11 : 1 ≤ 1 + k1 := by omega
    have a12 : 1 + k1 ≤ 16 := by omega
    clear hk0 hk1
    generalize 1 + k0 = n0 at *
    generalize 1 + k1 = n1 at *
    show C8.tCut _ _ _ _ _
    refine w_cut (fun σ H => ∃ top : Nat, σ = [some (.ref a), some (.ref st), some (.ref sz), some (.int top), none, none, none, none, none, none, none, none] ∧ n0 ≤ top ∧ n1 ≤ top ∧ top ≤ 16 ∧ Hd H [lstC sz [.int n0, .int n1], stoC st c, scrC c, tblC tP]) ?_ ?_
    · walk_at "gs"
      refine w_ite (fun e => ?_) (fun e => ?_)
      · walk_at "gs"
        exact ⟨n1, rfl, by omega, Nat.le_refl _, a12, h4⟩
      · walk_at "gs"
        exact ⟨n0, rfl, Nat.le_refl _, by omega, a02, h4⟩
    rintro σ H5 ⟨top, rfl, t0, t1, t16, h5⟩
    clear h4
    walk_at "gs"
    show C8.tCut _ _ _ _ _
    refine w_cut (fun σ H => ∃ n : Nat, σ = [some (.ref a), some (.ref st), some (.ref sz), some (.int top), some (.int n), none, none, none, none, none, none, none] ∧ 4 * top ≤ n ∧ n ≤ 96 ∧ Hd H [lstC sz [.int n0, .int n1], stoC st c, scrC c, tblC tP]) ?_ ?_
    · walk_at "gs"
      rename_i k2 H6 hk2 h6
      refine w_ite (fun e => ?_) (fun e => ?_)
      · walk_at "gs"
        rename_i k3 H7 hk3 h7
        exact ⟨4 * top + k3, by rw [show ((4 : Int) * (top : Int) + (k3 : Int)) = ((4 * top + k3 : Nat) : Int) by omega]; rfl, by omega, by omega, Hd.sb h7 (by walk_at "sbx")⟩
      · walk_at "gs"
        exact ⟨4 * top, by rw [show ((4 : Int) * (top : Int)) = ((4 * top : Nat) : Int) by omega]; rfl, by omega, by omega, Hd.sb h6 (by walk_at "sbx")⟩
    rintro σ H6 ⟨n, rfl, hn0, hn1, h6⟩
    clear h5
    walk_at "gs"
    rename_i F0 H7 h7
    clear h6
    refine ⟨F0, n, _, rfl, by omega, by omega, h7, fun hl0 pl0 H8 h8 => ⟨rfl, ?_⟩⟩
    replace h8 : Hd H8 (frL F0 C hl0 pl0 (List.replicate n (0, [])) (List.replicate n none) (lstC sz [.int n0, .int n1] :: stoC st c :: scrC c :: tblC tP :: [])) := h8
    have e8 := frB_app (C := C) (A := ⟨F0, hl0, pl0⟩) (S := List.replicate n (0, [])) (ps := List.replicate n none) (R := lstC sz [.int n0, .int n1] :: stoC st c :: scrC c :: tblC tP :: [])
    rw [show frL F0 C hl0 pl0 (List.replicate n (0, [])) (List.replicate n none) (lstC sz [.int n0, .int n1] :: stoC st c :: scrC c :: tblC tP :: []) = _ from e8] at h8
    clear h7 e8
    have w0 := w_none (n := n) (by omega) (by omega)
    have pk0 : PgOk (List.replicate n ((0, []) : Nat × List Int)) (List.replicate n none) := w0.f.pg
    have hSn : (List.replicate n ((0, []) : Nat × List Int)).length = n := List.length_replicate
    walk_at "gs"
    rename_i p9 H9 h9
    refine g_rep h9 (by walk_at "mem") (by omega) (by omega) (by rw [Int.toNat_natCast]; exact Nat.le_trans (show 1 * n ≤ 96 by omega) (by decide)) fun wa H10 h10 => ?_
    rw [Int.toNat_natCast, rep_flat] at h10
    clear h8 h9
    obtain ⟨S0, eS0⟩ : ∃ S0, S0 = List.replicate n ((0, []) : Nat × List Int) := ⟨_, rfl⟩
    obtain ⟨p0, ep0⟩ : ∃ p0 : List Pg, p0 = List.replicate n none := ⟨_, rfl⟩
    have ew : lstC wa (List.replicate n V.non) :: [] = wdB wa p0 := by
      unfold wdB
      rw [ep0, pgC_non, show (List.replicate n none : List Pg).map pgV = List.replicate n V.non by simp [pgV]]
    have h10' : Hd H10 (lstC wa (List.replicate n V.non) :: (frB C ⟨F0, hl0, pl0⟩ (List.replicate n ((0, []) : Nat × List Int)) (List.replicate n none) ++ [lstC sz [.int n0, .int n1], stoC st c, scrC c, tblC tP])) := Hd.sb h10 (by walk_at "sbx")
    replace h10 : Hd H10 (wdB wa p0 ++ (frB C ⟨F0, hl0, pl0⟩ S0 p0 ++ [lstC sz [.int n0, .int n1], stoC st c, scrC c, tblC tP])) := by
      rw [← ew, eS0, ep0]
      exact h10'
    clear h10'
    rw [← eS0, ← ep0] at w0 pk0
    rw [← eS0] at hSn
    clear eS0 ep0 ew
    walk_at "gs"
    refine g_lcL (xs := [V.int n0, .int n1]) h10 (h10.sqL (by walk_at "mem")) (fun i D H => ∃ l : List SpQ, l.map SpQ.T = ([n0, n1].take i).map (fun m => List.replicate m none) ∧ Hd H (lstC D (l.map raV) :: (spQs CS F0 l ++ (wdB wa p0 ++ (frB C ⟨F0, hl0, pl0⟩ S0 p0 ++ [lstC sz [.int n0, .int n1], stoC st c, scrC c, tblC tP]))))) (fun D H1 h1 => ⟨[], rfl, h1⟩) (fun i D H _ ⟨l, _, h⟩ => h.sqL (by walk_at "mem")) ?_ ?_
    · clear h10
      rintro i y D H11 hy ⟨l, el, h11⟩
      obtain ⟨m, hm, rfl⟩ : ∃ m : Nat, [n0, n1][i]? = some m ∧ V.int (m : Int) = y := by
        rw [show [V.int (n0 : Int), .int n1] = [n0, n1].map fun m : Nat => V.int (m : Int) from rfl, List.getElem?_map] at hy
        simpa using hy
      have hmm : 1 ≤ m ∧ m ≤ 16 := by
        rcases List.mem_cons.mp (List.mem_of_getElem? hm) with z | z
        · omega
        · rw [List.mem_singleton.mp z]; omega
      have et : [n0, n1].take (i + 1) = [n0, n1].take i ++ [m] := tk_succ hm
      have hll : l.length ≤ 2 := by
        have := congrArg List.length el
        rw [List.length_map, List.length_map, List.length_take] at this
        simp at this
        omega
      dsimp only [List.set]
      walk_at "gs"
      unfold tMakeK
      walk_at "gs"
      refine ⟨rfl, rfl, fun o1 dx1 hx1 hdx1 _ => ?_⟩
      have h12 := hdMade (C := CS) h11 hx1 hdx1
      generalize upd (upd H11 dx1 (.own o1)) o1 (.ins CS dx1 []) = H12 at h12
      clear h11 hx1 hdx1
      refine ⟨o1, F0, m, _, rfl, hmm.1, hmm.2, h12, fun ta2 H13 h13 => ⟨rfl, ?_⟩⟩
      clear h12
      walk_at "gs"
      rename_i p8 H14 h14
      refine g_rep h14 (by walk_at "mem") (by omega) (by omega) (by rw [Int.toNat_natCast]; exact Nat.le_trans (show 1 * m ≤ 16 by omega) (by decide)) fun la H15 h15 => ?_
      rw [Int.toNat_natCast, rep_flat, ← tb_new] at h15
      clear h13 h14
      walk_at "gs"
      rename_i p H16 h16 H17 h17
      clear h15 h16
      refine ⟨l ++ [⟨o1, ta2, p, la, List.replicate m none⟩], by rw [List.map_append, et, List.map_append, el]; rfl, ?_⟩
      rw [List.map_append, spQs_app, List.append_assoc]
      exact (show Hd H17 (lstC D (l.map raV ++ [.ref p]) :: (spQs CS F0 l ++ (spI CS o1 F0 ta2 false :: lstC ta2 (tbV (List.replicate m none)) :: lstC p [.ref o1, .ref la] :: lstC la (tbV (List.replicate m none)) :: (wdB wa p0 ++ (frB C ⟨F0, hl0, pl0⟩ S0 p0 ++ [lstC sz [.int n0, .int n1], stoC st c, scrC c, tblC tP]))))) from Hd.sb h17 (by walk_at "sbx"))
    · rintro D H11 ⟨l, el, h11⟩
      replace el : l.map SpQ.T = [n0, n1].map (fun m => List.replicate m none) := el
      walk_at "gs"
      refine ⟨st, c, top, 32, lstC D (l.map raV) :: (spQs CS F0 l ++ (wdB wa p0 ++ (frB C ⟨F0, hl0, pl0⟩ S0 p0 ++ [lstC sz [.int n0, .int n1], tblC tP]))), rfl, by omega, t16, by decide, Hd.sb h11 (by walk_at "sbx"), fun cp cas cs Zc H12 hcl h12 => ?_⟩
      clear h11 h10
      have hl2 : l.length = 2 := by
        have := congrArg List.length el
        rw [List.length_map] at this
        exact this
      obtain ⟨A, eA⟩ : ∃ A : FA, A = ⟨F0, hl0, pl0⟩ := ⟨_, rfl⟩
      have eF : F0 = A.F := by rw [eA]
      rw [← eA] at h12
      obtain ⟨W0, eW⟩ : ∃ W0 : Wq, W0 = ⟨A, S0, p0, wa, p0, l⟩ := ⟨_, rfl⟩
      have iv0 : Inv5 A wa n top W0 := by
        rw [eW]
        refine ⟨rfl, rfl, ⟨?_, pk0⟩, hSn, hn0, fun r hr => ?_, by show 1 ≤ l.length; omega, by show l.length ≤ 4; omega⟩
        · show WOk S0 p0 (l.map SpQ.T)
          rw [el]
          exact w_newT (Ts := [List.replicate n0 none]) (w_newT (Ts := []) w0 a01 a02) a11 a12
        · have := List.mem_map_of_mem (f := SpQ.T) (show r ∈ l from hr)
          rw [el] at this
          rcases List.mem_cons.mp this with z | z
          · rw [z, List.length_replicate]; exact t0
          · rw [List.mem_singleton.mp z, List.length_replicate]; exact t1
      have h13 : Hd H12 (stoC st c :: scrC c :: tblC tP :: lstC sz [.int n0, .int n1] :: lstC cp (cas.map V.ref) :: lstC D (W0.sp.map raV) :: (wQ C CS W0 ++ (Zc ++ []))) := by
        rw [wQ_eq, eW]
        rw [eF] at h12
        exact Hd.sb h12 (by walk_at "sbx")
      clear h12 eW el hl2 hSn pk0 w0
      rw [eF]
      clear eA eF
      have hcas : ∀ {H : Hp} {W : Wq}, Hd H (stoC st c :: scrC c :: tblC tP :: lstC sz [.int n0, .int n1] :: lstC cp (cas.map V.ref) :: lstC D (W.sp.map raV) :: (wQ C CS W ++ (Zc ++ []))) → SqL K H cp (cas.map V.ref) := fun h => h.sqL (by walk_at "mem")
      walk_at "gs"
      refine l_list (xs := cas.map V.ref) (hcas h13) (fun i σ H => ∃ (x8 x9 x10 : Option V) (W : Wq), σ = [some (.ref a), some (.ref st), some (.ref sz), some (.int top), some (.int n), some (.ref A.F), some (.ref wa), some (.ref D), x8, x9, x10, none] ∧ Inv5 A wa n top W ∧ Hd H (stoC st c :: scrC c :: tblC tP :: lstC sz [.int n0, .int n1] :: lstC cp (cas.map V.ref) :: lstC D (W.sp.map raV) :: (wQ C CS W ++ (Zc ++ [])))) ⟨_, _, _, W0, rfl, iv0, h13⟩ (fun i σ H _ ⟨_, _, _, _, _, _, h⟩ => hcas h) ?_ ?_
      · clear h13 iv0
        rintro i y σ H16 hy ⟨x8, x9, x10, W, rfl, iv, h16⟩
        obtain ⟨ca, hca, rfl⟩ : ∃ z, cas[i]? = some z ∧ V.ref z = y := by simpa [List.getElem?_map] using hy
        obtain ⟨k, _, hk, kok⟩ := paired_at hcl hca
        clear hy hca
        obtain ⟨Z1, Z2, eZ⟩ := List.append_of_mem hk
        have eZ' : Zc ++ [] = (Z1 ++ tupC ca (clV k) :: (Z2 ++ [])) := by rw [eZ]; simp
        rw [eZ'] at h16
        dsimp only [List.set]
        walk_at "gs"
        refine w_ixT (h16.sqT (a := ca) (xs := clV k) (by walk_at "mem")) (atI_nat (j := 1) (v := .int (whoK k)) (by cases k <;> rfl)) ?_
        have hal : (W.sp.map raV).length = W.sp.length := List.length_map ..
        have hs1 := iv.s1
        walk_at "gs"
        rw [hal, show ((whoK k : Int) % ((W.sp.length : Nat) : Int)) = ((whoK k % W.sp.length : Nat) : Int) from (Int.natCast_emod ..).symm]
        have hwl : whoK k % W.sp.length < W.sp.length := Nat.mod_lt _ iv.s1
        generalize whoK k % W.sp.length = ix at *
        obtain ⟨r, hra⟩ : ∃ r, W.sp[ix]? = some r := ⟨_, List.getElem?_eq_getElem hwl⟩
        have hrv : (W.sp.map raV)[ix]? = some (.ref r.ra) := by rw [List.getElem?_map, hra]; rfl
        walk_at "gs"
        show C8.tCut _ _ _ _ _
        refine w_cut (fun σ H => ∃ W' : Wq, σ = [some (.ref a), some (.ref st), some (.ref sz), some (.int top), some (.int n), some (.ref A.F), some (.ref wa), some (.ref D), some (.ref ca), some (.int ix), some (.ref r.ra), none] ∧ Inv5 A wa n top W' ∧ Hd H (stoC st c :: scrC c :: tblC tP :: lstC sz [.int n0, .int n1] :: lstC cp (cas.map V.ref) :: lstC D (W'.sp.map raV) :: (wQ C CS W' ++ (Z1 ++ tupC ca (clV k) :: (Z2 ++ []))))) ?_ ?_
        · obtain ⟨M1, M2, esp, elen⟩ := split_at hra
          have pm := wQ_perm (C := C) (CS := CS) (R := (Z1 ++ tupC ca (clV k) :: (Z2 ++ []))) esp
          have hm : r ∈ W.sp := List.mem_of_getElem? hra
          have t := iv.ok.k.tok (T := r.T) (List.mem_map_of_mem hm)
          have tt1 := t.n1
          have tn16 := t.n16
          have hk0 := iv.ok.k
          rw [esp, List.map_append, List.map_cons] at hk0
          have hl1 : (tbV r.T).length = r.T.length := List.length_map ..
          have h20 : Hd H16 (stoC st c :: scrC c :: tblC tP :: lstC sz [.int n0, .int n1] :: lstC cp (cas.map V.ref) :: lstC D (W.sp.map raV) :: (frB C A W.S W.ps ++ (spI CS r.s A.F r.ta false :: lstC r.ta (tbV r.T) :: lstC r.ra [.ref r.s, .ref r.la] :: lstC r.la (tbV r.T) :: (wdB wa W.ws ++ (spQs CS A.F M1 ++ (spQs CS A.F M2 ++ (Z1 ++ tupC ca (clV k) :: (Z2 ++ [])))))))) := by
            have := h16.perm (List.Perm.append_left [stoC st c, scrC c, tblC tP, lstC sz [.int n0, .int n1], lstC cp (cas.map V.ref), lstC D (W.sp.map raV)] pm)
            rw [iv.fa, iv.fw] at this
            exact this
          have fin : ∀ (W' : Wq) (H : Hp), Inv5 A wa n top W' → Hd H (stoC st c :: scrC c :: tblC tP :: lstC sz [.int n0, .int n1] :: lstC cp (cas.map V.ref) :: lstC D (W'.sp.map raV) :: (wQ C CS W' ++ (Z1 ++ tupC ca (clV k) :: (Z2 ++ [])))) → ∃ W' : Wq, ([some (.ref a), some (.ref st), some (.ref sz), some (.int top), some (.int n), some (.ref A.F), some (.ref wa), some (.ref D), some (.ref ca), some (.int ix), some (.ref r.ra), none] : L2.St) = [some (.ref a), some (.ref st), some (.ref sz), some (.int top), some (.int n), some (.ref A.F), some (.ref wa), some (.ref D), some (.ref ca), some (.int ix), some (.ref r.ra), none] ∧ Inv5 A wa n top W' ∧ Hd H (stoC st c :: scrC c :: tblC tP :: lstC sz [.int n0, .int n1] :: lstC cp (cas.map V.ref) :: lstC D (W'.sp.map raV) :: (wQ C CS W' ++ (Z1 ++ tupC ca (clV k) :: (Z2 ++ [])))) := fun W' H i h => ⟨W', rfl, i, h⟩
          have hlen := iv.len
          cases k with
          | fk who =>
            clear h16
            dsimp only [clV] at h20 fin ⊢
            walk_at "gs"
            refine w_ite (fun e => ?_) (fun e => ?_)
            · walk_at "gs"
              refine ⟨r.s, A, r.ta, W.S, W.ps, r.T, stoC st c :: scrC c :: tblC tP :: lstC sz [.int n0, .int n1] :: lstC cp (cas.map V.ref) :: lstC D (W.sp.map raV) :: lstC r.ra [.ref r.s, .ref r.la] :: lstC r.la (tbV r.T) :: (wdB wa W.ws ++ (spQs CS A.F M1 ++ (spQs CS A.F M2 ++ (Z1 ++ tupC ca [.str "fork", .int who] :: (Z2 ++ []))))), rfl, iv.ok.k.f, t, Hd.sb h20 (by walk_at "sbx"), fun s2 ta2 H21 kf h21 => ?_⟩
              clear h20
              have h4 : W.sp.length ≤ 4 := iv.s4
              walk_at "gs"
              rename_i la2 H22 h22 rn H23 h23 H24 h24
              clear h21 h22 h23
              refine fin ⟨A, addT W.S r.T, W.ps, wa, W.ws, W.sp ++ [⟨s2, ta2, rn, la2, r.T⟩]⟩ H24 ⟨rfl, rfl, ⟨?_, pg_add iv.ok.p t⟩, add_len.trans iv.fn, iv.cap, fun z hz => ?_, by rw [List.length_append]; omega, by rw [List.length_append]; show W.sp.length + 1 ≤ 4; omega⟩ ?_
              · have := (w_fork hk0 kf).1
                simpa [esp] using this
              · rcases List.mem_append.mp hz with y | y
                · exact hlen z y
                · rw [List.mem_singleton.mp y]; exact hlen r hm
              · have pm2 := wQ_perm (C := C) (CS := CS) (R := (Z1 ++ tupC ca [.str "fork", .int who] :: (Z2 ++ []))) (W := ⟨A, addT W.S r.T, W.ps, wa, W.ws, W.sp ++ [⟨s2, ta2, rn, la2, r.T⟩]⟩) (L1 := M1) (L2 := M2 ++ [⟨s2, ta2, rn, la2, r.T⟩]) (r := r) (by show W.sp ++ _ = _; rw [esp]; simp)
                rw [spQs_app] at pm2
                refine Hd.perm ?_ (List.Perm.append_left [stoC st c, scrC c, tblC tP, lstC sz [.int n0, .int n1], lstC cp (cas.map V.ref), lstC D ((W.sp ++ [(⟨s2, ta2, rn, la2, r.T⟩ : SpQ)]).map raV)] pm2.symm)
                rw [List.map_append, List.append_assoc (spQs CS A.F M2)]
                exact (show Hd H24 (stoC st c :: scrC c :: tblC tP :: lstC sz [.int n0, .int n1] :: lstC cp (cas.map V.ref) :: lstC D (W.sp.map raV ++ [.ref rn]) :: (frB C A (addT W.S r.T) W.ps ++ (spI CS r.s A.F r.ta false :: lstC r.ta (tbV r.T) :: lstC r.ra [.ref r.s, .ref r.la] :: lstC r.la (tbV r.T) :: (wdB wa W.ws ++ (spQs CS A.F M1 ++ (spQs CS A.F M2 ++ (spI CS s2 A.F ta2 false :: lstC ta2 (tbV r.T) :: lstC rn [.ref s2, .ref la2] :: lstC la2 (tbV r.T) :: (Z1 ++ tupC ca [.str "fork", .int who] :: (Z2 ++ []))))))))) from Hd.sb h24 (by walk_at "sbx"))
            · walk_at "gs"
              refine fin W H16 iv ?_
              have := h20
              have e2 := Hd.perm this (List.Perm.append_left [stoC st c, scrC c, tblC tP, lstC sz [.int n0, .int n1], lstC cp (cas.map V.ref), lstC D (W.sp.map raV)] (show List.Perm _ (wQ C CS W ++ (Z1 ++ tupC ca [.str "fork", .int who] :: (Z2 ++ []))) from by rw [← iv.fa, ← iv.fw]; exact pm.symm))
              exact e2
          | cl who =>
            clear h16
            dsimp only [clV] at h20 fin ⊢
            walk_at "gs"
            refine ⟨r.s, A, r.ta, W.S, W.ps, r.T, stoC st c :: scrC c :: tblC tP :: lstC sz [.int n0, .int n1] :: lstC cp (cas.map V.ref) :: lstC D (W.sp.map raV) :: lstC r.ra [.ref r.s, .ref r.la] :: lstC r.la (tbV r.T) :: (wdB wa W.ws ++ (spQs CS A.F M1 ++ (spQs CS A.F M2 ++ (Z1 ++ tupC ca [.str "close", .int who] :: (Z2 ++ []))))), rfl, iv.ok.k.f, t, w_count hk0, Hd.sb h20 (by walk_at "sbx"), fun H21 kf h21 => ?_⟩
            clear h20
            have h4 : W.sp.length ≤ 4 := iv.s4
            walk_at "gs"
            refine g_popAt h21 (by walk_at "pk") (n := ix) (y := .ref r.ra) (by omega) (by omega) hrv fun H22 h22 => ?_
            clear h21
            have ee : (W.sp.map raV).eraseIdx ix = (M1 ++ M2).map raV := by
              rw [esp, List.map_append, List.map_cons, ← elen, show M1.length = (M1.map raV).length from (List.length_map ..).symm, er_mid, List.map_append]
            rw [ee] at h22
            have wc := (w_close hk0 kf).1
            have el4 : (M1 ++ M2).length ≤ 4 := by
              have := congrArg List.length esp
              rw [List.length_append, List.length_cons] at this
              rw [List.length_append]; omega
            have hl3 : ((M1 ++ M2).map raV).length = (M1 ++ M2).length := List.length_map ..
            have hlen3 : ∀ z ∈ M1 ++ M2, z.T.length ≤ top := fun z hz => hlen z (by
              rw [esp]
              rcases List.mem_append.mp hz with y | y
              · exact List.mem_append_left _ y
              · exact List.mem_append_right _ (.tail _ y))
            have e3 : ∀ {X : List Cell} {l : List SpQ}, wQ C CS ⟨A, subT W.S r.T, W.ps, wa, W.ws, l⟩ ++ X = frB C A (subT W.S r.T) W.ps ++ (wdB wa W.ws ++ (spQs CS A.F l ++ X)) := fun {X l} => wQ_eq (W := ⟨A, subT W.S r.T, W.ps, wa, W.ws, l⟩)
            have h23 : Hd H22 (stoC st c :: scrC c :: tblC tP :: lstC sz [.int n0, .int n1] :: lstC cp (cas.map V.ref) :: lstC D ((M1 ++ M2).map raV) :: (frB C A (subT W.S r.T) W.ps ++ (wdB wa W.ws ++ (spQs CS A.F M1 ++ (spQs CS A.F M2 ++ (Z1 ++ tupC ca [.str "close", .int who] :: (Z2 ++ []))))))) := Hd.sb h22 (by walk_at "sbx")
            rw [← List.append_assoc (spQs CS A.F M1), ← spQs_app] at h23
            clear h22
            have pgs := pg_sub iv.ok.p t
            have wc2 : WOk (subT W.S r.T) W.ps ((M1 ++ M2).map SpQ.T) := by rw [List.map_append]; exact wc
            have hSn : (subT W.S r.T).length = n := sub_len.trans iv.fn
            clear wc kf ee
            generalize M1 ++ M2 = M3 at *
            walk_at "gs"
            refine w_ite (fun e => ?_) (fun e => ?_)
            · walk_at "gs"
              unfold tMakeK
              walk_at "gs"
              refine ⟨rfl, rfl, fun o1 dx1 hx1 hdx1 _ => ?_⟩
              have h12 := hdMade (C := CS) h23 hx1 hdx1
              generalize upd (upd H22 dx1 (.own o1)) o1 (.ins CS dx1 []) = H12 at h12
              clear h23 hx1 hdx1
              refine ⟨o1, A.F, n1, _, rfl, a11, a12, h12, fun ta2 H13 h13 => ⟨rfl, ?_⟩⟩
              clear h12
              walk_at "gs"
              rename_i p8 H14 h14
              refine g_rep h14 (by walk_at "mem") (by omega) (by omega) (by rw [Int.toNat_natCast]; exact Nat.le_trans (show 1 * n1 ≤ 16 by omega) (by decide)) fun la H15 h15 => ?_
              rw [Int.toNat_natCast, rep_flat, ← tb_new] at h15
              clear h13 h14
              walk_at "gs"
              rename_i rn H16 h16 H17 h17
              clear h15 h16
              refine fin ⟨A, subT W.S r.T, W.ps, wa, W.ws, M3 ++ [⟨o1, ta2, rn, la, List.replicate n1 none⟩]⟩ H17 ⟨rfl, rfl, ⟨?_, pgs⟩, hSn, iv.cap, fun z hz => ?_, by rw [List.length_append]; show 1 ≤ M3.length + 1; omega, by rw [List.length_append]; show M3.length + 1 ≤ 4; omega⟩ ?_
              · have := w_newT wc2 a11 a12
                show WOk (subT W.S r.T) W.ps ((M3 ++ [_]).map SpQ.T)
                rw [List.map_append]
                exact this
              · rcases List.mem_append.mp hz with y | y
                · exact hlen3 z y
                · rw [List.mem_singleton.mp y]; show (List.replicate n1 none).length ≤ top; rw [List.length_replicate]; exact t1
              · rw [e3, spQs_app, List.map_append, List.append_assoc (spQs CS A.F M3)]
                exact (show Hd H17 (stoC st c :: scrC c :: tblC tP :: lstC sz [.int n0, .int n1] :: lstC cp (cas.map V.ref) :: lstC D (M3.map raV ++ [.ref rn]) :: (frB C A (subT W.S r.T) W.ps ++ (wdB wa W.ws ++ (spQs CS A.F M3 ++ (spI CS o1 A.F ta2 false :: lstC ta2 (tbV (List.replicate n1 none)) :: lstC rn [.ref o1, .ref la] :: lstC la (tbV (List.replicate n1 none)) :: (Z1 ++ tupC ca [.str "close", .int who] :: (Z2 ++ []))))))) from Hd.sb h17 (by walk_at "sbx"))
            · walk_at "gs"
              exact fin ⟨A, subT W.S r.T, W.ps, wa, W.ws, M3⟩ H22 ⟨rfl, rfl, ⟨wc2, pgs⟩, hSn, iv.cap, hlen3, by show 1 ≤ M3.length; omega, el4⟩ (by rw [e3]; exact h23)
          | rd who ad =>
            clear h20
            have ev : [V.ref st, .ref D, .ref wa, .int ix, .ref ca] = [V.ref st, .ref D, .ref W.wa, .int M1.length, .ref ca] := by rw [iv.fw, elen]
            dsimp only [clV] at h16 fin ⊢
            walk_at "gs"
            refine ⟨st, c, D, ca, W, M1, M2, r, .rd who ad, lstC sz [.int n0, .int n1] :: lstC cp (cas.map V.ref) :: (Z1 ++ (Z2 ++ [])), ev, iv.ok, esp, rfl, kok, iv.flat, Hd.sb (A := stoC st c :: scrC c :: tblC tP :: lstC D (W.sp.map raV) :: tupC ca [.str "read", .int who, .int ad] :: (wQ C CS W ++ (lstC sz [.int n0, .int n1] :: lstC cp (cas.map V.ref) :: (Z1 ++ (Z2 ++ []))))) h16 (by walk_at "sbx"), fun W' H21 ok' eA ewa eln ⟨T', eT, esp'⟩ h21 => ?_⟩
            replace h21 : Hd H21 (stoC st c :: scrC c :: tblC tP :: lstC D (W.sp.map raV) :: tupC ca [.str "read", .int who, .int ad] :: (wQ C CS W' ++ (lstC sz [.int n0, .int n1] :: lstC cp (cas.map V.ref) :: (Z1 ++ (Z2 ++ []))))) := h21
            have er : W'.sp.map raV = W.sp.map raV := by rw [esp', esp]; simp [raV]
            have erl : W'.sp.length = W.sp.length := by rw [esp', esp]; simp
            walk_at "gs"
            refine fin W' H21 ⟨eA.trans iv.fa, ewa.trans iv.fw, ok', eln.trans iv.fn, iv.cap, fun z hz => ?_, by rw [erl]; exact iv.s1, by rw [erl]; exact iv.s4⟩ ?_
            · rw [esp'] at hz
              rcases List.mem_append.mp hz with y | y
              · exact hlen z (by rw [esp]; exact List.mem_append_left _ y)
              · rcases List.mem_cons.mp y with y | y
                · rw [y]; show T'.length ≤ top; rw [eT]; exact hlen r hm
                · exact hlen z (by rw [esp]; exact List.mem_append_right _ (.tail _ y))
            · rw [er]
              exact Hd.sb (A := stoC st c :: scrC c :: tblC tP :: lstC sz [.int n0, .int n1] :: lstC cp (cas.map V.ref) :: lstC D (W.sp.map raV) :: (wQ C CS W' ++ (Z1 ++ tupC ca [.str "read", .int who, .int ad] :: (Z2 ++ [])))) h21 (by walk_at "sbx")
          | wr who ad x =>
            clear h20
            have ev : [V.ref st, .ref D, .ref wa, .int ix, .ref ca] = [V.ref st, .ref D, .ref W.wa, .int M1.length, .ref ca] := by rw [iv.fw, elen]
            dsimp only [clV] at h16 fin ⊢
            walk_at "gs"
            refine ⟨st, c, D, ca, W, M1, M2, r, .wr who ad x, lstC sz [.int n0, .int n1] :: lstC cp (cas.map V.ref) :: (Z1 ++ (Z2 ++ [])), ev, iv.ok, esp, rfl, kok, iv.flat, Hd.sb (A := stoC st c :: scrC c :: tblC tP :: lstC D (W.sp.map raV) :: tupC ca [.str "write", .int who, .int ad, .int x] :: (wQ C CS W ++ (lstC sz [.int n0, .int n1] :: lstC cp (cas.map V.ref) :: (Z1 ++ (Z2 ++ []))))) h16 (by walk_at "sbx"), fun W' H21 ok' eA ewa eln ⟨T', eT, esp'⟩ h21 => ?_⟩
            replace h21 : Hd H21 (stoC st c :: scrC c :: tblC tP :: lstC D (W.sp.map raV) :: tupC ca [.str "write", .int who, .int ad, .int x] :: (wQ C CS W' ++ (lstC sz [.int n0, .int n1] :: lstC cp (cas.map V.ref) :: (Z1 ++ (Z2 ++ []))))) := h21
            have er : W'.sp.map raV = W.sp.map raV := by rw [esp', esp]; simp [raV]
            have erl : W'.sp.length = W.sp.length := by rw [esp', esp]; simp
            walk_at "gs"
            refine fin W' H21 ⟨eA.trans iv.fa, ewa.trans iv.fw, ok', eln.trans iv.fn, iv.cap, fun z hz => ?_, by rw [erl]; exact iv.s1, by rw [erl]; exact iv.s4⟩ ?_
            · rw [esp'] at hz
              rcases List.mem_append.mp hz with y | y
              · exact hlen z (by rw [esp]; exact List.mem_append_left _ y)
              · rcases List.mem_cons.mp y with y | y
                · rw [y]; show T'.length ≤ top; rw [eT]; exact hlen r hm
                · exact hlen z (by rw [esp]; exact List.mem_append_right _ (.tail _ y))
            · rw [er]
              exact Hd.sb (A := stoC st c :: scrC c :: tblC tP :: lstC sz [.int n0, .int n1] :: lstC cp (cas.map V.ref) :: lstC D (W.sp.map raV) :: (wQ C CS W' ++ (Z1 ++ tupC ca [.str "write", .int who, .int ad, .int x] :: (Z2 ++ [])))) h21 (by walk_at "sbx")
        rintro σ H17 ⟨W', rfl, iv', h17⟩
        clear h16
        walk_at "gs"
        rename_i k5 H18 hk5 h18 k6 H19 hk6 h19 ch H20 h20
        clear h17 h18 h19
        have eq0 : [V.ref A.F, .ref D, .int n, .ref ch] = [V.ref W'.A.F, .ref D, .int W'.S.length, .ref ch] := by rw [iv'.fa, iv'.fn]
        have hn5 : k5 < n := by
          split at hk5 <;> omega
        refine ⟨W', D, ch, [k5, k6], lstC ch [.int k5, .int k6] :: stoC st c :: scrC c :: tblC tP :: lstC sz [.int n0, .int n1] :: lstC cp (cas.map V.ref) :: lstC D (W'.sp.map raV) :: (Z1 ++ tupC ca (clV k) :: (Z2 ++ [])), eq0, iv'.ok, fun z hz => ?_, by walk_at "mem", .head _, Hd.sb h20 (by walk_at "sbx"), fun H21 h21 => ?_⟩
        · rw [iv'.fn]
          rcases List.mem_cons.mp hz with y | y
          · omega
          · rw [List.mem_singleton.mp y]; omega
        clear h20
        walk_at "gs"
        refine ⟨_, _, _, W', rfl, iv', ?_⟩
        rw [eZ']
        exact Hd.sb h21 (by walk_at "sbx")
      · rintro σ H16 ⟨x8, x9, x10, W, rfl, iv, h16⟩
        clear h13
        have eq0 : [V.ref A.F, .ref D, .ref wa, .int n] = [V.ref W.A.F, .ref D, .ref W.wa, .int W.S.length] := by rw [iv.fa, iv.fw, iv.fn]
        walk_at "gs"
        refine ⟨W, D, stoC st c :: scrC c :: tblC tP :: lstC sz [.int n0, .int n1] :: lstC cp (cas.map V.ref) :: lstC D (W.sp.map raV) :: (Zc ++ []), eq0, iv.ok, by walk_at "mem", Hd.sb h16 (by walk_at "sbx"), iv.s4, fun H' => ?_⟩
        walk_at "gs"
        exact q _
end
end
end K05
set_option Elab.async false
set_option linter.all false
set_option maxRecDepth 100000
set_option maxHeartbeats 4000000
namespace K05
open PySem PySem.Spec PyProof.Rows L2 Wk
local macro_rules | `(tactic| walk_at "u1") => `(tactic| fail "no more")
local macro_rules | `(tactic| walk_at "pos") => `(tactic| first | assumption | omega | decide | (simp only [Int.ofNat_eq_natCast] at *; omega))
local macro_rules | `(tactic| walk_at "sz") => `(tactic| first
  | (simp only [List.length_cons, List.length_nil]; decide)
  | exact Evl.sz_of (by omega)
  | exact Evl.sz_lt (by omega)
  | exact Evl.sz_of (by simp only [List.length_map, List.length_append, List.length_cons, List.length_nil, List.length_replicate]; omega)
  | exact Evl.sz_lt (by simp only [List.length_map, List.length_append, List.length_cons, List.length_nil, List.length_replicate]; omega))
local macro_rules | `(tactic| walk_at "cond") => `(tactic| first
  | exact Or.inr ⟨by decide, by decide⟩
  | (show (0 : Int) < _; first | decide | assumption | omega)
  | exact Or.inl ⟨by omega, by omega⟩
  | exact Or.inr ⟨by omega, by omega⟩
  | exact ⟨by decide, by decide, by decide⟩
  | exact log2_lt (by omega) (by omega)
  | exact ⟨by omega, by omega⟩)
local macro_rules | `(tactic| walk_at "ty") => `(tactic| first
  | exact ty_int | exact ty_bl | exact ty_str | exact ty_non
  | exact ty_L (by assumption) | exact ty_T (by assumption)
  | exact ty_L (SqL.of (by assumption)) | exact ty_T (SqT.of (by assumption)))
local macro_rules | `(tactic| walk_at "kit") => `(tactic| first
  | exact k_ii | exact k_ib | exact k_is | exact k_il | exact k_it
  | exact k_bb | exact k_bi | exact k_bs | exact k_bl | exact k_bt
  | exact k_ss | exact k_sb | exact k_si | exact k_sl | exact k_st
  | exact k_ll | exact k_lb | exact k_li | exact k_ls | exact k_lt
  | exact k_tt | exact k_tb | exact k_ti | exact k_ts | exact k_tl
  | exact k_nn | exact k_ni | exact k_ns | exact k_nl | exact k_nt)
local macro_rules | `(tactic| walk_at "s1") => `(tactic| first
  | with_reducible refine w_seq ?_
  | with_reducible refine w_set ?_
  | with_reducible refine w_op ?_
  | ((with_reducible refine' w_var ?h1 ?_); (case h1 => rfl))
  | with_reducible refine w_c ?_
  | with_reducible refine w_cb ?_
  | with_reducible refine w_cons ?_
  | with_reducible refine w_nil ?_
  | with_reducible refine w_I0 ?_
  | ((with_reducible refine' w_I ?c1 ?_); case c1 => walk_at "cond")
  | with_reducible refine w_ret ?_
  | with_reducible refine w_next ?_
  | with_reducible refine w_ifS ?_
  | with_reducible refine w_test ?_
  | with_reducible refine w_tB ?_
  | with_reducible refine w_k ?_
  | with_reducible refine w_eqI ?_
  | with_reducible refine w_neI ?_
  | with_reducible refine w_eqS ?_
  | with_reducible refine w_neS ?_
  | with_reducible refine w_and ?_
  | with_reducible refine w_or ?_
  | with_reducible refine w_not ?_
  | with_reducible refine w_andV ?_
  | with_reducible refine w_orV ?_
  | with_reducible refine w_notV ?_
  | with_reducible refine w_ifE ?_
  | with_reducible refine w_true ?_
  | with_reducible refine w_false ?_
  | with_reducible refine w_ntrue ?_
  | with_reducible refine w_nfalse ?_
  | with_reducible refine w_call ?_
  | with_reducible refine c_int ?_
  | with_reducible refine c_abs ?_
  | with_reducible refine c_max ?_
  | with_reducible refine c_min ?_
  | with_reducible refine w_drop ?_
  | with_reducible refine w_sfld ?_
  | with_reducible refine w_meth ?_
  | with_reducible refine w_make ?_
  | with_reducible refine w_prop ?_
  | with_reducible refine w_callK ?_
  | with_reducible refine w_callN ?_
  | with_reducible refine w_star ?_
  | with_reducible refine w_gcons ?_
  | with_reducible refine w_gname ?_
  | with_reducible refine w_gnil ?_
  | with_reducible refine w_retN ?_
  | with_reducible refine w_tup ?_
  | with_reducible refine w_lst ?_
  | with_reducible refine w_fld ?_
  | with_reducible refine w_bm ?_
  | with_reducible refine w_bm0 ?_
  | with_reducible refine w_forL ?_
  | with_reducible refine w_forT ?_
  | with_reducible refine w_forS ?_
  | with_reducible refine w_forR ?_
  | with_reducible refine w_lcR ?_
  | with_reducible refine w_lcL ?_
  | with_reducible refine w_lcT ?_
  | with_reducible refine w_isN ?_
  | with_reducible refine w_notN ?_
  | with_reducible refine w_asg ?_
  | with_reducible refine w_gsub ?_
  | ((with_reducible refine' w_aug ?h1 ?_); (case h1 => rfl))
  | with_reducible refine w_augS ?_
  | with_reducible refine w_ipI ?_
  | with_reducible refine w_un ?_
  | with_reducible refine w_U ?_
  | ((with_reducible refine' w_iteF ?f1 ?_); case f1 => (first | (intro h; cases h; done) | decide))
  | ((with_reducible refine' w_iteT ?f1 ?_); case f1 => rfl)
  | ((with_reducible refine' w_iteNF ?f1 ?_); case f1 => rfl)
  | ((with_reducible refine' w_iteNT ?f1 ?_); case f1 => (first | (intro h; cases h; done) | decide))
  | ((with_reducible refine' c_isi ?t1 ?k1 ?_); (case t1 => walk_at "ty"); (case k1 => walk_at "kit"))
  | ((with_reducible refine' w_eq ?e1 ?_); case e1 => rfl)
  | ((with_reducible refine' w_ne ?e1 ?_); case e1 => rfl)
  | walk_at "u1")
local macro_rules | `(tactic| walk_at "s") => `(tactic| repeat walk_at "s1")
local macro_rules | `(tactic| walk_at "mem") => `(tactic| first | with_reducible exact List.mem_cons_self .. | ((with_reducible refine' List.mem_cons_of_mem _ ?q); (case q => walk_at "mem")) | assumption | ((with_reducible refine' List.mem_append_right _ ?q); (case q => walk_at "mem")) | (exact List.mem_append_left _ (by assumption)))
local macro_rules | `(tactic| walk_at "pk") => `(tactic| first | with_reducible exact Pk.here | ((with_reducible refine' Pk.there ?q); (case q => walk_at "pk")) | ((with_reducible refine' Pk.app ?q); (case q => walk_at "pk")))
local macro_rules | `(tactic| walk_at "pkb") => `(tactic| first | with_reducible exact PkB.here | ((with_reducible refine' PkB.there ?q); (case q => walk_at "pkb")) | ((with_reducible refine' PkB.app ?q); (case q => walk_at "pkb")))
local macro_rules | `(tactic| walk_at "spl") => `(tactic| first | with_reducible exact Spl.nil | ((with_reducible refine' Spl.cons ?h ?t); (case h => walk_at "pk"); (case t => walk_at "spl")) | ((with_reducible refine' Spl.blk ?h ?t); (case h => walk_at "pkb"); (case t => walk_at "spl")))
local macro_rules | `(tactic| walk_at "sbx") => `(tactic| first | with_reducible exact Sb.refl | with_reducible exact Sb.nil | with_reducible exact Sb.left | ((with_reducible refine' Sb.cons ?h ?t); (case h => walk_at "pk"); (case t => walk_at "sbx")) | ((with_reducible refine' Sb.blk ?h ?t); (case h => walk_at "pkb"); (case t => walk_at "sbx")) | ((with_reducible refine' Sb.drop ?q); (case q => walk_at "sbx")) | ((with_reducible refine' Sb.right ?q); (case q => walk_at "sbx")))
local macro_rules | `(tactic| walk_at "hd") => `(tactic| first | assumption | exact Hd.sb (by assumption) (by walk_at "sbx"))
local macro_rules | `(tactic| walk_at "sq") => `(tactic| first
  | assumption
  | exact Hd.sqL (by assumption) (by walk_at "mem")
  | exact Hd.sqT (by assumption) (by walk_at "mem")
  | exact Hd.sqF (by assumption) (by walk_at "mem")
  | (refine .inl ?_; walk_at "sq")
  | (refine .inr ?_; walk_at "sq"))
local macro_rules | `(tactic| walk_at "at") => `(tactic| first | rfl | assumption | exact atI_nat (by assumption))
local macro_rules | `(tactic| walk_at "dn1") => `(tactic| first
  | exact Dn.int | exact Dn.str | exact Dn.non | exact Dn.bl | assumption
  | ((refine' Dn.tp ?a1 ?m1 ?l1 ?p1); (case a1 => assumption); (case m1 => walk_at "mem"); (case l1 => (simp only [List.length_cons, List.length_nil]; omega)); (case p1 => walk_at "dns"))
  | ((refine' Dn.lt ?a1 ?m1 ?l1 ?p1); (case a1 => assumption); (case m1 => walk_at "mem"); (case l1 => (simp only [List.length_cons, List.length_nil]; omega)); (case p1 => walk_at "dns")))
local macro_rules | `(tactic| walk_at "dns") => `(tactic| first | exact Paired.nil | exact Dn.ints | ((refine' Paired.cons ?a1 ?b1); (case a1 => walk_at "dn1"); (case b1 => walk_at "dns")))
local macro_rules | `(tactic| walk_at "g1") => `(tactic| first
  | ((with_reducible refine' g_ixI ?h1 ?h2 ?h3 ?_); (case h1 => assumption); (case h2 => walk_at "mem"); (case h3 => omega); intro z hz)
  | ((with_reducible refine' g_ixIT ?h1 ?h2 ?h3 ?_); (case h1 => assumption); (case h2 => walk_at "mem"); (case h3 => omega); intro z hz)
  | ((with_reducible refine' g_setI ?h1 ?h2 ?h3 ?_); (case h1 => assumption); (case h2 => walk_at "pk"); (case h3 => omega); intro H2 hh2)
  | ((with_reducible refine' w_ixL ?h1 ?h2 ?_); (case h1 => walk_at "sq"); (case h2 => walk_at "at"))
  | ((with_reducible refine' w_ixT ?h1 ?h2 ?_); (case h1 => walk_at "sq"); (case h2 => walk_at "at"))
  | ((with_reducible refine' w_ixAny ?h1 ?h2 ?_); (case h1 => walk_at "sq"); (case h2 => walk_at "at"))
  | ((with_reducible refine' c_lenA ?h1 ?_); (case h1 => walk_at "sq"))
  | ((with_reducible refine' c_isi ?t1 ?k1 ?_); (case t1 => first | exact ty_T (by walk_at "sq") | exact ty_L (by walk_at "sq")); (case k1 => walk_at "kit"))
  | ((with_reducible refine' g_lst ?h1 ?h2 ?_); (case h1 => assumption); (case h2 => walk_at "sz"); intro p H2 hh2)
  | ((with_reducible refine' g_tup ?h1 ?h2 ?_); (case h1 => assumption); (case h2 => walk_at "sz"); intro p H2 hh2)
  | ((with_reducible refine' g_dict ?h1 ?_); (case h1 => assumption); intro p H2 hh2)
  | ((with_reducible refine' g_listL ?h1 ?h2 ?_); (case h1 => assumption); (case h2 => walk_at "sq"); intro p H2 hh2)
  | ((with_reducible refine' g_listT ?h1 ?h2 ?_); (case h1 => assumption); (case h2 => walk_at "sq"); intro p H2 hh2)
  | ((with_reducible refine' g_tupL ?h1 ?h2 ?_); (case h1 => assumption); (case h2 => walk_at "sq"); intro p H2 hh2)
  | ((with_reducible refine' g_set ?h1 ?h2 ?h3 ?_); (case h1 => assumption); (case h2 => walk_at "pk"); (case h3 => first | rfl | assumption | exact Evl.ixN_nat (by first | omega | (simp only [List.length_cons, List.length_nil]; omega))); intro H2 hh2)
  | ((with_reducible refine' g_kbm ?h1 ?h2 ?_); (case h1 => assumption); (case h2 => walk_at "mem"))
  | ((with_reducible refine' g_kbm0 ?h1 ?h2 ?_); (case h1 => assumption); (case h2 => walk_at "mem"))
  | ((with_reducible refine' g_app ?h1 ?h2 ?h3 ?_); (case h1 => assumption); (case h2 => walk_at "pk"); (case h3 => walk_at "sz"); intro H2 hh2)
  | ((with_reducible refine' g_kapp ?h1 ?h2 ?h3 ?_); (case h1 => assumption); (case h2 => walk_at "pk"); (case h3 => walk_at "sz"); intro H2 hh2)
  | ((with_reducible refine' g_fld ?h1 ?h2 ?h3 ?h4 ?h5 ?_); (case h1 => assumption); (case h2 => walk_at "mem"); (case h3 => assumption); (case h4 => assumption); (case h5 => rfl))
  | ((with_reducible refine' g_sfld ?h1 ?h2 ?h3 ?h4 ?h5 ?_); (case h1 => assumption); (case h2 => walk_at "pk"); (case h3 => assumption); (case h4 => assumption); (case h5 => decide); intro H2 hh2)
  | ((with_reducible refine' g_meth ?h1 ?h2 ?h3 ?_); (case h1 => assumption); (case h2 => walk_at "mem"); (case h3 => rfl))
  | ((with_reducible refine' g_prop ?h1 ?h2 ?_); (case h1 => assumption); (case h2 => walk_at "mem"))
  | ((with_reducible refine' g_make ?h1 ?_); (case h1 => assumption); intro x H2 hh2)
  | ((with_reducible refine' g_cat ?h1 ?h2 ?h3 ?h4 ?_); (case h1 => assumption); (case h2 => walk_at "mem"); (case h3 => walk_at "mem"); (case h4 => walk_at "sz"); intro p H2 hh2)
  | ((with_reducible refine' g_inT ?h1 ?h2 ?h3 ?h4 ?h5 ?_); (case h1 => assumption); (case h2 => walk_at "mem"); (case h3 => rfl); (case h4 => rfl); (case h5 => rfl)))
local macro_rules | `(tactic| walk_at "gs") => `(tactic| repeat first | walk_at "s1" | walk_at "g1")
local macro_rules | `(tactic| walk_at "ite") => `(tactic| first
  | ((with_reducible refine' w_iteT ?h1 ?_); (case h1 => omega))
  | ((with_reducible refine' w_iteF ?h1 ?_); (case h1 => omega))
  | (with_reducible refine w_ite ?_ ?_ <;> intro hq)
  | ((with_reducible refine' w_iteNT ?h1 ?_); (case h1 => omega))
  | ((with_reducible refine' w_iteNF ?h1 ?_); (case h1 => omega))
  | (with_reducible refine w_iteN ?_ ?_ <;> intro hq))
local macro_rules | `(tactic| walk_at "go") => `(tactic| repeat' first | walk_at "s1" | walk_at "g1" | walk_at "ite")
local macro_rules | `(tactic| walk_at "g1") => `(tactic| first
  | ((with_reducible refine' g_take1 ?h1 ?h2 ?h3 ?h4 ?_); (case h1 => assumption); (case h2 => walk_at "spl"); (case h3 => omega); (case h4 => omega); intro k H2 hk1 hh2)
  | ((with_reducible refine' g_take ?h1 ?h2 ?h4 ?_); (case h1 => assumption); (case h2 => walk_at "spl"); (case h4 => omega); intro k H2 hk1 hh2)
  | ((with_reducible refine' g_betweenN ?h1 ?h2 ?h5 ?h3 ?h4 ?_); (case h1 => assumption); (case h2 => walk_at "spl"); (case h5 => omega); (case h3 => omega); (case h4 => omega); intro k H2 hk1 hk2 hh2)
  | ((with_reducible refine' g_between ?h1 ?h2 ?h3 ?h4 ?_); (case h1 => assumption); (case h2 => walk_at "spl"); (case h3 => omega); (case h4 => omega); intro k H2 hk1 hk2 hh2)
  | ((with_reducible refine' g_size ?h1 ?h2 ?h3 ?h4 ?_); (case h1 => assumption); (case h2 => walk_at "spl"); (case h3 => omega); (case h4 => omega); intro k H2 hk1 hh2)
  | ((with_reducible refine' g_word ?h1 ?h2 ?_); (case h1 => assumption); (case h2 => walk_at "spl"); intro k H2 hk1 hh2))
local macro_rules | `(tactic| walk_at "g1") => `(tactic| first | with_reducible refine w_sl ?_ | with_reducible refine w_part ?_ | with_reducible refine w_noPart ?_ | with_reducible refine w_exI ?_)
section
variable {P : Program} {w : World} {K : PySem.W.Frag} {mg : Str → Option Value} {base : Heap} {aREG aOPS : Addr}
/-- every def of the text under its name -/
structure Defs (K : PySem.W.Frag) (mg : Str → Option Value) (C CS cW : Addr) : Prop where
  is_integer : DefAt K mg "is_integer" s_is_integer
  is_in_range : DefAt K mg "is_in_range" s_is_in_range
  is_word : DefAt K mg "is_word" s_is_word
  are_words : DefAtC K mg "are_words" s_are_words cW
  is_list_of_words : DefAt K mg "is_list_of_words" s_is_list_of_words
  ask_range : DefAt K mg "ask_range" s_ask_range
  ask_word : DefAt K mg "ask_word" s_ask_word
  ask_words : DefAt K mg "ask_words" s_ask_words
  mixed : DefAt K mg "_law_mixed" s__law_mixed
  store : DefAt K mg "_law_store" s__law_store
  take : DefAt K mg "_law_take" s__law_take
  between : DefAt K mg "_law_between" s__law_between
  size : DefAt K mg "_law_size" s__law_size
  word : DefAt K mg "_law_word" s__law_word
  pick : DefAt K mg "_law_pick" s__law_pick
  alike : DefAt K mg "_law_alike" s__law_alike
  copy : DefAt K mg "_law_copy" s__law_copy
  error : DefAt K mg "_law_error" s__law_error
  space_calls : DefAt K mg "_law_space_calls" s__law_space_calls
  holds : DefAt K mg "_law_holds" s__law_holds
  write : DefAt K mg "_law_write" s__law_write
  read : DefAt K mg "_law_read" s__law_read
  looks : DefAt K mg "_law_looks" s__law_looks
  page : DefAt K mg "_law_page" s__law_page
  whole : DefAt K mg "_law_whole" s__law_whole
  step : DefAt K mg "_law_step" s__law_step
  m_Frames_share : MetAt K C "share" "Frames.share" s_Frames__share
  m_Frames_drop : MetAt K C "drop" "Frames.drop" s_Frames__drop
  m_Frames_peek : MetAt K C "peek" "Frames.peek" s_Frames__peek
  m_Frames_poke : MetAt K C "poke" "Frames.poke" s_Frames__poke
  m_Frames_page : MetAt K C "page" "Frames.page" s_Frames__page
  m_Frames_holds : MetAt K C "holds" "Frames.holds" s_Frames__holds
  m_Frames_ask_frame : MetAt K C "_ask_frame" "Frames._ask_frame" s_Frames___ask_frame
  m_Frames_ask_used : MetAt K C "_ask_used" "Frames._ask_used" s_Frames___ask_used
  p_Frames_free : PrpAt K C "free" "Frames.free" s_Frames__free
  m_Space_read : MetAt K CS "read" "Space.read" s_Space__read
  m_Space_write : MetAt K CS "write" "Space.write" s_Space__write
  m_Space_contents : MetAt K CS "contents" "Space.contents" s_Space__contents
  m_Space_fork : MetAt K CS "fork" "Space.fork" s_Space__fork
  m_Space_close : MetAt K CS "close" "Space.close" s_Space__close
  m_Space_table : MetAt K CS "table" "Space.table" s_Space__table
  m_Space_getitem : MetAt K CS "__getitem__" "Space.__getitem__" s_Space____getitem__
  m_Space_setitem : MetAt K CS "__setitem__" "Space.__setitem__" s_Space____setitem__
  m_Space_word_at : MetAt K CS "_word_at" "Space._word_at" s_Space___word_at
  m_Space_own_frame : MetAt K CS "_own_frame" "Space._own_frame" s_Space___own_frame
  m_Space_ask_address : MetAt K CS "_ask_address" "Space._ask_address" s_Space___ask_address
  m_Space_ask_unclosed : MetAt K CS "_ask_unclosed" "Space._ask_unclosed" s_Space___ask_unclosed
theorem all_law {C CS CU W f fI fT fS fU cW tP : Addr} {fd fdI fdT fdS fdU : FuncData} (T : Txt K mg aREG aOPS) (TB : GxR.TabB base mg cW tP) (L : FrC K C) (LS : SpcC K CS) (D : Defs K mg C CS cW) (F : FunT K "law" s_law f fd)
    (dI : DefM K "__init__" "Frames.__init__" s_Frames____init__ [] fI fdI) (mI : Mk K C fI) (gI : mg "Frames" = some (.ref C)) (dT : DefM K "take" "Frames.take" s_Frames__take [.non] fT fdT) (mT : Meth K C "take" fT)
    (dS : SpF K fS fdS) (mS : Mk K CS fS) (gS : mg "Space" = some (.ref CS)) (hsq : PySem.W.noSeq K CS = true) (RU : ErrX K mg "Unknown" CU W fU) (dU : DefM K "__init__" "Unknown.__init__" s_Unknown____init__ [] fU fdU) : FnOk P w K mg base CX0 12 f fd ["script"] (sp_law K tP) := by
  have mixed := c_mixed (P := P) (w := w) (base := base) T D.mixed
  have store := c_store (P := P) (w := w) (base := base) T D.store
  have take := c_take T D.take mixed
  have pick := c_pick T D.pick take
  have between := c_between T D.between take
  have size := c_size T D.size take
  have word := c_word T D.word take pick
  have alike := c_alike (P := P) (w := w) (base := base) T D.alike 3
  have int_ := c_integer (P := P) (w := w) (base := base) T D.is_integer
  have range := c_range T D.is_in_range int_
  have isword := c_isword T D.is_word range
  have words := c_words (P := P) (w := w) T TB D.are_words D.is_integer D.is_in_range D.is_word
  have ask := c_ask T D.ask_range range
  have askW := c_askW T D.ask_word isword
  have isl := c_isl8 T D.is_list_of_words words
  have askWs := c_askW8 T D.ask_words isl
  have frI_ := c_frI T L dI mI gI ask
  have free := c_free (P := P) (w := w) (mg := mg) (base := base) T L D.p_Frames_free
  have askF := c_askF T L D.m_Frames_ask_frame ask
  have used := c_used (P := P) (w := w) (base := base) T L D.m_Frames_ask_used
  have share := s_share T L D.m_Frames_share askF used
  have drop := s_drop T L D.m_Frames_drop askF used
  have peek := s_peek T L D.m_Frames_peek askF ask used
  have page := s_page T L D.m_Frames_page askF used
  have holds := s_holds T L D.m_Frames_holds askF
  have poke := s_poke T L D.m_Frames_poke askF ask askW used
  have tk1 := c_take1 T L dT mT free askWs
  have tk2 := c_take2 T L dT mT free askWs
  have sp1 := ck_sp1 T LS dS mS gS ask
  have askA := c_askA T LS D.m_Space_ask_address ask
  have askU := c_askU (P := P) (w := w) (base := base) T LS D.m_Space_ask_unclosed
  have wordat := c_wordat T LS D.m_Space_word_at askA askU peek
  have read := c_read T D.m_Space_read wordat
  have own := c_own T LS D.m_Space_own_frame holds tk1 tk2 page drop
  have write := c_write T LS D.m_Space_write askA askU askW own poke
  have cont := c_cont T LS D.m_Space_contents askU page
  have fork := c_fork T LS D.m_Space_fork askU sp1 share
  have close := c_close T LS D.m_Space_close askU drop
  have calls := c_calls T D.space_calls take between word
  have usedX := x_used (P := P) (w := w) (base := base) T L RU dU D.m_Frames_ask_used
  have pageX := x_page T L D.m_Frames_page askF usedX
  have table := c_table T LS D.m_Space_table askU
  have get := c_get T LS D.m_Space_getitem wordat
  have set := c_set T LS D.m_Space_setitem write
  have lholds := c_lholds (P := P) (w := w) (base := base) T D.holds
  have lread := c_lread (P := P) (w := w) (base := base) T D.read
  have lwrite := c_lwrite T D.write lholds
  have looks := c_looks T D.looks table free holds lholds alike
  obtain ⟨fE, fdE, FE, hmE⟩ := D.error
  have lpage := c_lpage T RU D.page pageX (e_err T RU FE) hmE FE.kp (FunD.bindsN FE fun _ _ _ _ _ _ us hl => match us, hl with | [_], _ => rfl)
  have whole := c_whole T D.whole looks lholds lread lpage cont alike
  have step := c_qstep T D.step hsq (Wk.MetAt.fnIn D.m_Space_getitem) read write get set lread lwrite take alike
  exact c_law T LS F store take size frI_ sp1 calls fork close step looks whole
end
end K05
namespace K05
open PySem PySem.Spec PyProof.Rows L2 Wk
theorem facts_errX {K : PySem.W.Frag} {h : Heap} {mg : Str → Option Value} {nm : Str} (X : K.In h) (G : h.Ns mainGlobals mg) (c : errXB K nm = true) : ErrX K mg nm (He.ga K nm) (He.ga K "WardError") (He.fAd K (nm, some "__init__")) := by
  obtain ⟨h1, c⟩ := He.ba c
  obtain ⟨h2, c⟩ := He.ba c
  obtain ⟨h3, c⟩ := He.ba c
  obtain ⟨h4, c⟩ := He.ba c
  obtain ⟨h5, c⟩ := He.ba c
  obtain ⟨h6, c⟩ := He.ba c
  obtain ⟨h7, c⟩ := He.ba c
  obtain ⟨h8, c⟩ := He.ba c
  obtain ⟨h9, c⟩ := He.ba c
  obtain ⟨h10, c⟩ := He.ba c
  obtain ⟨h11, c⟩ := He.ba c
  obtain ⟨h12, c⟩ := He.ba c
  obtain ⟨h13, c⟩ := He.ba c
  obtain ⟨h14, c⟩ := He.ba c
  refine ⟨PySem.W.mg_of X G (He.eqO_ok h1), PySem.W.mg_of X G (He.eqO_ok h2), PySem.W.mg_none_of X G (He.eqO_ok h3), oexB_ok h4, L2.xfB_ok h5, excB_ok h6, He.eqO_ok h7, He.eqO_ok h8, of_decide_eq_true h9, He.eqO_ok h10, wrB_ok h11, of_decide_eq_true h12, of_decide_eq_true h13, of_decide_eq_true h14, fun x hx => ?_⟩
  obtain ⟨z1, z2⟩ := He.ba (List.all_eq_true.mp c x hx)
  exact ⟨_, PySem.W.mg_of X G (He.eqO_ok z1), of_decide_eq_true z2⟩
theorem facts {P : Program} {w : World} {K : PySem.W.Frag} {h : Heap} {mg : Str → Option Value} {f : Addr} (X : K.In h) (G : h.Ns mainGlobals mg) (hfa : mg ("law" : Str) = some (.ref f)) (c : He.SaysX fa fn [] tf ex w h K) (cg : He5.SaysA [] axs K) :
    ∃ fd : FuncData, (∀ (s : Shared) (v : Value), BindsTo s fd ⟨[v], []⟩ [("script", v)]) ∧ ∀ base : Heap, GxR.TabB base mg (He.codeOf K ("are_words", none)) (He.tabOf K (He.codeOf K ("are_words", none))) → FnOk P w K mg base CX0 12 f fd ["script"] (sp_law K (He.tabOf K (He.codeOf K ("are_words", none)))) := by
  have cm := c.more
  obtain ⟨xp_Frames_free, cm⟩ := He.ba cm
  obtain ⟨xq_Space, xx_Unknown⟩ := He.ba cm
  obtain ⟨fd_is_integer, F_is_integer⟩ := c.t.d.def_ 0 (d := d_is_integer) rfl
  obtain ⟨fd_is_in_range, F_is_in_range⟩ := c.t.d.def_ 1 (d := d_is_in_range) rfl
  obtain ⟨fd_is_word, F_is_word⟩ := c.t.d.def_ 2 (d := d_is_word) rfl
  obtain ⟨fd_are_words, F_are_words⟩ := c.t.d.def_ 3 (d := d_are_words) rfl
  obtain ⟨fd_is_list_of_words, F_is_list_of_words⟩ := c.t.d.def_ 4 (d := d_is_list_of_words) rfl
  obtain ⟨fd_ask_range, F_ask_range⟩ := c.t.d.def_ 5 (d := d_ask_range) rfl
  obtain ⟨fd_ask_word, F_ask_word⟩ := c.t.d.def_ 6 (d := d_ask_word) rfl
  obtain ⟨fd_ask_words, F_ask_words⟩ := c.t.d.def_ 7 (d := d_ask_words) rfl
  obtain ⟨fd__law_mixed, F__law_mixed⟩ := c.t.d.def_ 8 (d := d__law_mixed) rfl
  obtain ⟨fd__law_store, F__law_store⟩ := c.t.d.def_ 9 (d := d__law_store) rfl
  obtain ⟨fd__law_take, F__law_take⟩ := c.t.d.def_ 10 (d := d__law_take) rfl
  obtain ⟨fd__law_between, F__law_between⟩ := c.t.d.def_ 11 (d := d__law_between) rfl
  obtain ⟨fd__law_size, F__law_size⟩ := c.t.d.def_ 12 (d := d__law_size) rfl
  obtain ⟨fd__law_word, F__law_word⟩ := c.t.d.def_ 13 (d := d__law_word) rfl
  obtain ⟨fd__law_pick, F__law_pick⟩ := c.t.d.def_ 14 (d := d__law_pick) rfl
  obtain ⟨fd__law_alike, F__law_alike⟩ := c.t.d.def_ 15 (d := d__law_alike) rfl
  obtain ⟨fd__law_copy, F__law_copy⟩ := c.t.d.def_ 16 (d := d__law_copy) rfl
  obtain ⟨fd__law_error, F__law_error⟩ := c.t.d.def_ 17 (d := d__law_error) rfl
  obtain ⟨fd__law_space_calls, F__law_space_calls⟩ := c.t.d.def_ 18 (d := d__law_space_calls) rfl
  obtain ⟨fd__law_holds, F__law_holds⟩ := c.t.d.def_ 19 (d := d__law_holds) rfl
  obtain ⟨fd__law_write, F__law_write⟩ := c.t.d.def_ 20 (d := d__law_write) rfl
  obtain ⟨fd__law_read, F__law_read⟩ := c.t.d.def_ 21 (d := d__law_read) rfl
  obtain ⟨fd__law_looks, F__law_looks⟩ := c.t.d.def_ 22 (d := d__law_looks) rfl
  obtain ⟨fd__law_page, F__law_page⟩ := c.t.d.def_ 23 (d := d__law_page) rfl
  obtain ⟨fd__law_whole, F__law_whole⟩ := c.t.d.def_ 24 (d := d__law_whole) rfl
  obtain ⟨fd__law_step, F__law_step⟩ := c.t.d.def_ 25 (d := d__law_step) rfl
  obtain ⟨fd_law, F_law⟩ := c.t.d.def_ 26 (d := d_law) rfl
  obtain ⟨fdM_Frames_share, FM_Frames_share⟩ := c.t.d.def_ 27 (d := d_M_Frames_share) rfl
  obtain ⟨fdM_Frames_drop, FM_Frames_drop⟩ := c.t.d.def_ 28 (d := d_M_Frames_drop) rfl
  obtain ⟨fdM_Frames_peek, FM_Frames_peek⟩ := c.t.d.def_ 29 (d := d_M_Frames_peek) rfl
  obtain ⟨fdM_Frames_poke, FM_Frames_poke⟩ := c.t.d.def_ 30 (d := d_M_Frames_poke) rfl
  obtain ⟨fdM_Frames_page, FM_Frames_page⟩ := c.t.d.def_ 31 (d := d_M_Frames_page) rfl
  obtain ⟨fdM_Frames_holds, FM_Frames_holds⟩ := c.t.d.def_ 32 (d := d_M_Frames_holds) rfl
  obtain ⟨fdM_Frames__ask_frame, FM_Frames__ask_frame⟩ := c.t.d.def_ 33 (d := d_M_Frames__ask_frame) rfl
  obtain ⟨fdM_Frames__ask_used, FM_Frames__ask_used⟩ := c.t.d.def_ 34 (d := d_M_Frames__ask_used) rfl
  obtain ⟨fdM_Frames_take, FM_Frames_take⟩ := c.t.d.def_ 35 (d := d_M_Frames_take) rfl
  obtain ⟨fdM_Frames___init__, FM_Frames___init__⟩ := c.t.d.def_ 36 (d := d_M_Frames___init__) rfl
  obtain ⟨fdM_Space_read, FM_Space_read⟩ := c.t.d.def_ 37 (d := d_M_Space_read) rfl
  obtain ⟨fdM_Space_write, FM_Space_write⟩ := c.t.d.def_ 38 (d := d_M_Space_write) rfl
  obtain ⟨fdM_Space_contents, FM_Space_contents⟩ := c.t.d.def_ 39 (d := d_M_Space_contents) rfl
  obtain ⟨fdM_Space_fork, FM_Space_fork⟩ := c.t.d.def_ 40 (d := d_M_Space_fork) rfl
  obtain ⟨fdM_Space_close, FM_Space_close⟩ := c.t.d.def_ 41 (d := d_M_Space_close) rfl
  obtain ⟨fdM_Space_table, FM_Space_table⟩ := c.t.d.def_ 42 (d := d_M_Space_table) rfl
  obtain ⟨fdM_Space___getitem__, FM_Space___getitem__⟩ := c.t.d.def_ 43 (d := d_M_Space___getitem__) rfl
  obtain ⟨fdM_Space___setitem__, FM_Space___setitem__⟩ := c.t.d.def_ 44 (d := d_M_Space___setitem__) rfl
  obtain ⟨fdM_Space__word_at, FM_Space__word_at⟩ := c.t.d.def_ 45 (d := d_M_Space__word_at) rfl
  obtain ⟨fdM_Space__own_frame, FM_Space__own_frame⟩ := c.t.d.def_ 46 (d := d_M_Space__own_frame) rfl
  obtain ⟨fdM_Space__ask_address, FM_Space__ask_address⟩ := c.t.d.def_ 47 (d := d_M_Space__ask_address) rfl
  obtain ⟨fdM_Space__ask_unclosed, FM_Space__ask_unclosed⟩ := c.t.d.def_ 48 (d := d_M_Space__ask_unclosed) rfl
  obtain ⟨fdM_Space___init__, FM_Space___init__⟩ := c.t.d.def_ 49 (d := d_M_Space___init__) rfl
  obtain ⟨fdS_Frames_free, FS_Frames_free⟩ := cg.def_ 0 (d := d_S_Frames_free) rfl
  obtain ⟨fdE_Unknown, FE_Unknown⟩ := c.t.d.def_ 50 (d := d_E_Unknown) rfl
  have e := hfa.symm.trans (He.glo_ok X G (c.t.d.fact 26 (f := .glo "law") rfl))
  cases e
  have b := FunD.bindsA (ps := ["script"]) F_law fun _ _ _ _ _ _ us hl => match us, hl with | [_], _ => rfl
  have T : Txt K mg 0 0 := ⟨⟨He.free_ok X G (c.t.d.fact 60 (f := .free "int") rfl), He.free_ok X G (c.t.d.fact 61 (f := .free "len") rfl), He.free_ok X G (c.t.d.fact 62 (f := .free "range") rfl), He.free_ok X G (c.t.d.fact 63 (f := .free "list") rfl), He.free_ok X G (c.t.d.fact 64 (f := .free "abs") rfl), He.free_ok X G (c.t.d.fact 65 (f := .free "min") rfl), He.free_ok X G (c.t.d.fact 66 (f := .free "max") rfl), He.free_ok X G (c.t.d.fact 67 (f := .free "isinstance") rfl), He.free_ok X G (c.t.d.fact 68 (f := .free "bool") rfl), He.free_ok X G (c.t.d.fact 69 (f := .free "str") rfl), He.free_ok X G (c.t.d.fact 70 (f := .free "tuple") rfl), He.free_ok X G (c.t.d.fact 71 (f := .free "dict") rfl), He.free_ok X G (c.t.d.fact 72 (f := .free "sorted") rfl), He.free_ok X G (c.t.d.fact 73 (f := .free "all") rfl), He.free_ok X G (c.t.d.fact 74 (f := .free "any") rfl), He.free_ok X G (c.t.d.fact 75 (f := .free "zip") rfl), He.free_ok X G (c.t.d.fact 76 (f := .free "enumerate") rfl), He.free_ok X G (c.t.d.fact 77 (f := .free "sum") rfl)⟩,
    let ⟨t, e⟩ := He.int_ok X G (c.t.d.fact 27 (f := .int "WORDS" 65536) rfl); ⟨_, e, ⟨t, rfl⟩⟩⟩
  have cl_Frames := He.cls_ok (c.t.d.fact 29 (f := .cls "Frames") rfl)
  have L_Frames : FrC K (He.ga K "Frames") := ⟨cl_Frames, He.noat_ok (c.t.d.fact 30 (f := .noat "Frames" "_holds") rfl), He.noat_ok (c.t.d.fact 31 (f := .noat "Frames" "_pages") rfl)⟩
  have cl_Space := He.cls_ok (c.t.d.fact 43 (f := .cls "Space") rfl)
  have L_Space : SpcC K (He.ga K "Space") := ⟨cl_Space, He.noat_ok (c.t.d.fact 44 (f := .noat "Space" "_frames") rfl), He.noat_ok (c.t.d.fact 45 (f := .noat "Space" "_table") rfl), He.noat_ok (c.t.d.fact 46 (f := .noat "Space" "_closed") rfl)⟩
  have code0 : ∃ c0, fd_are_words.code = .ref c0 ∧ He.codeOf K ("are_words", none) = c0 := by
    obtain ⟨oc, od, dV, kV, doc, pm, an, cdv, ct, osl, e, lk, hcd, _⟩ := F_are_words.ex
    obtain ⟨c0, rfl⟩ := He.codeIn_ref hcd
    exact ⟨c0, by rw [e], He.codeOf_eq lk (by rw [e])⟩
  obtain ⟨c0_0, hc0_0, hc1_0⟩ := code0
  have D : Defs K mg (He.ga K "Frames") (He.ga K "Space") (He.codeOf K ("are_words", none)) := ⟨
    ⟨_, _, F_is_integer, He.glo_ok X G (c.t.d.fact 0 (f := .glo "is_integer") rfl)⟩,
    ⟨_, _, F_is_in_range, He.glo_ok X G (c.t.d.fact 1 (f := .glo "is_in_range") rfl)⟩,
    ⟨_, _, F_is_word, He.glo_ok X G (c.t.d.fact 2 (f := .glo "is_word") rfl)⟩,
    ⟨_, _, ⟨F_are_words, hc1_0 ▸ hc0_0⟩, He.glo_ok X G (c.t.d.fact 3 (f := .glo "are_words") rfl)⟩,
    ⟨_, _, F_is_list_of_words, He.glo_ok X G (c.t.d.fact 4 (f := .glo "is_list_of_words") rfl)⟩,
    ⟨_, _, F_ask_range, He.glo_ok X G (c.t.d.fact 5 (f := .glo "ask_range") rfl)⟩,
    ⟨_, _, F_ask_word, He.glo_ok X G (c.t.d.fact 6 (f := .glo "ask_word") rfl)⟩,
    ⟨_, _, F_ask_words, He.glo_ok X G (c.t.d.fact 7 (f := .glo "ask_words") rfl)⟩,
    ⟨_, _, F__law_mixed, He.glo_ok X G (c.t.d.fact 8 (f := .glo "_law_mixed") rfl)⟩,
    ⟨_, _, F__law_store, He.glo_ok X G (c.t.d.fact 9 (f := .glo "_law_store") rfl)⟩,
    ⟨_, _, F__law_take, He.glo_ok X G (c.t.d.fact 10 (f := .glo "_law_take") rfl)⟩,
    ⟨_, _, F__law_between, He.glo_ok X G (c.t.d.fact 11 (f := .glo "_law_between") rfl)⟩,
    ⟨_, _, F__law_size, He.glo_ok X G (c.t.d.fact 12 (f := .glo "_law_size") rfl)⟩,
    ⟨_, _, F__law_word, He.glo_ok X G (c.t.d.fact 13 (f := .glo "_law_word") rfl)⟩,
    ⟨_, _, F__law_pick, He.glo_ok X G (c.t.d.fact 14 (f := .glo "_law_pick") rfl)⟩,
    ⟨_, _, F__law_alike, He.glo_ok X G (c.t.d.fact 15 (f := .glo "_law_alike") rfl)⟩,
    ⟨_, _, F__law_copy, He.glo_ok X G (c.t.d.fact 16 (f := .glo "_law_copy") rfl)⟩,
    ⟨_, _, F__law_error, He.glo_ok X G (c.t.d.fact 17 (f := .glo "_law_error") rfl)⟩,
    ⟨_, _, F__law_space_calls, He.glo_ok X G (c.t.d.fact 18 (f := .glo "_law_space_calls") rfl)⟩,
    ⟨_, _, F__law_holds, He.glo_ok X G (c.t.d.fact 19 (f := .glo "_law_holds") rfl)⟩,
    ⟨_, _, F__law_write, He.glo_ok X G (c.t.d.fact 20 (f := .glo "_law_write") rfl)⟩,
    ⟨_, _, F__law_read, He.glo_ok X G (c.t.d.fact 21 (f := .glo "_law_read") rfl)⟩,
    ⟨_, _, F__law_looks, He.glo_ok X G (c.t.d.fact 22 (f := .glo "_law_looks") rfl)⟩,
    ⟨_, _, F__law_page, He.glo_ok X G (c.t.d.fact 23 (f := .glo "_law_page") rfl)⟩,
    ⟨_, _, F__law_whole, He.glo_ok X G (c.t.d.fact 24 (f := .glo "_law_whole") rfl)⟩,
    ⟨_, _, F__law_step, He.glo_ok X G (c.t.d.fact 25 (f := .glo "_law_step") rfl)⟩,
    ⟨_, _, FM_Frames_share, cl_Frames, He.meth_ok (c.t.d.fact 33 (f := .meth "Frames" "share") rfl)⟩,
    ⟨_, _, FM_Frames_drop, cl_Frames, He.meth_ok (c.t.d.fact 34 (f := .meth "Frames" "drop") rfl)⟩,
    ⟨_, _, FM_Frames_peek, cl_Frames, He.meth_ok (c.t.d.fact 35 (f := .meth "Frames" "peek") rfl)⟩,
    ⟨_, _, FM_Frames_poke, cl_Frames, He.meth_ok (c.t.d.fact 36 (f := .meth "Frames" "poke") rfl)⟩,
    ⟨_, _, FM_Frames_page, cl_Frames, He.meth_ok (c.t.d.fact 37 (f := .meth "Frames" "page") rfl)⟩,
    ⟨_, _, FM_Frames_holds, cl_Frames, He.meth_ok (c.t.d.fact 38 (f := .meth "Frames" "holds") rfl)⟩,
    ⟨_, _, FM_Frames__ask_frame, cl_Frames, He.meth_ok (c.t.d.fact 39 (f := .meth "Frames" "_ask_frame") rfl)⟩,
    ⟨_, _, FM_Frames__ask_used, cl_Frames, He.meth_ok (c.t.d.fact 40 (f := .meth "Frames" "_ask_used") rfl)⟩,
    ⟨_, _, _, FS_Frames_free, cl_Frames, prB_ok xp_Frames_free⟩,
    ⟨_, _, FM_Space_read, cl_Space, He.meth_ok (c.t.d.fact 48 (f := .meth "Space" "read") rfl)⟩,
    ⟨_, _, FM_Space_write, cl_Space, He.meth_ok (c.t.d.fact 49 (f := .meth "Space" "write") rfl)⟩,
    ⟨_, _, FM_Space_contents, cl_Space, He.meth_ok (c.t.d.fact 50 (f := .meth "Space" "contents") rfl)⟩,
    ⟨_, _, FM_Space_fork, cl_Space, He.meth_ok (c.t.d.fact 51 (f := .meth "Space" "fork") rfl)⟩,
    ⟨_, _, FM_Space_close, cl_Space, He.meth_ok (c.t.d.fact 52 (f := .meth "Space" "close") rfl)⟩,
    ⟨_, _, FM_Space_table, cl_Space, He.meth_ok (c.t.d.fact 53 (f := .meth "Space" "table") rfl)⟩,
    ⟨_, _, FM_Space___getitem__, cl_Space, He.meth_ok (c.t.d.fact 54 (f := .meth "Space" "__getitem__") rfl)⟩,
    ⟨_, _, FM_Space___setitem__, cl_Space, He.meth_ok (c.t.d.fact 55 (f := .meth "Space" "__setitem__") rfl)⟩,
    ⟨_, _, FM_Space__word_at, cl_Space, He.meth_ok (c.t.d.fact 56 (f := .meth "Space" "_word_at") rfl)⟩,
    ⟨_, _, FM_Space__own_frame, cl_Space, He.meth_ok (c.t.d.fact 57 (f := .meth "Space" "_own_frame") rfl)⟩,
    ⟨_, _, FM_Space__ask_address, cl_Space, He.meth_ok (c.t.d.fact 58 (f := .meth "Space" "_ask_address") rfl)⟩,
    ⟨_, _, FM_Space__ask_unclosed, cl_Space, He.meth_ok (c.t.d.fact 59 (f := .meth "Space" "_ask_unclosed") rfl)⟩⟩
  refine ⟨fd_law, fun s v => b s [v] rfl, fun base TB0 => ?_⟩
  exact all_law T TB0 L_Frames L_Space D F_law FM_Frames___init__ (He.mkr_ok (c.t.d.fact 32 (f := .mkr "Frames") rfl)) (He.glo_ok X G (c.t.d.fact 28 (f := .glo "Frames") rfl)) FM_Frames_take (He.meth_ok (c.t.d.fact 41 (f := .meth "Frames" "take") rfl)) FM_Space___init__ (He.mkr_ok (c.t.d.fact 47 (f := .mkr "Space") rfl)) (He.glo_ok X G (c.t.d.fact 42 (f := .glo "Space") rfl)) xq_Space (facts_errX X G xx_Unknown) FE_Unknown
end K05
open PySem PySem.W PySem.Calls PyProof.Rows
theorem PySem.Challenge.cw_wardwork_k05_whole_holds_are_pages_holds : PySem.Challenge.rw_wardwork_k05_whole_holds_are_pages.Holds := by
  w_on; o_law
  refine HandSHeadRun.head_any (r := OpenLaw.row PySem.Challenge.rw_wardwork_k05_whole_holds_are_pages) (q := view (OpenLaw.row PySem.Challenge.rw_wardwork_k05_whole_holds_are_pages).prog [48]) (H := K05.hookY) (ob := K05.ob) (M := 20000) (loose := K05.loose) (d := HandSHeadRun.topDef (OpenLaw.row PySem.Challenge.rw_wardwork_k05_whole_holds_are_pages).prog 48) (kwd := []) K05.ob_eq
    (by kernel_rfl) (fun s => by kernel_rfl) K05.run (by kernel_rfl) (by kernel_rfl) (by kernel_rfl) (by rfl) (by first | assumption | decide +kernel) (by decide +kernel) ⟨rfl, rfl, rfl, rfl, rfl, by decide +kernel⟩ ?hw ?hc
  case hw => w_witness2
  case hc =>
    refine LamX.walk_ofTsE (l := PySem.Challenge.rw_wardwork_k05_whole_holds_are_pages) (n := 63) (k := 12) (x := "script") (CX := fun _ => C8.CX0) rfl (by decide) (by kernel_rfl) ⟨rfl, by decide, by decide⟩ ?F (fun _ _ _ _ _ z => z)
    intro w mg fa h Y G hmg0
    obtain ⟨K, KX, c, cg⟩ := Y
    have hmg : mg ("law" : PySem.Str) = some (.ref fa) := by
      have e : (HandSHeadRun.topDef (OpenLaw.row PySem.Challenge.rw_wardwork_k05_whole_holds_are_pages).prog 48).name = ("law" : PySem.Str) := by kernel_rfl
      rw [← e]
      exact hmg0
    obtain ⟨fd, hb, hF⟩ := K05.facts (P := (PySem.Challenge.rw_wardwork_k05_whole_holds_are_pages).prog) (w := w) KX G hmg c cg
    refine ⟨K, KX, fd, [He.cT K ("are_words", none)], K05.sp_law K (He.tabOf K (He.codeOf K ("are_words", none))), fun p hp => ?_, fun p hp => ?_, fun p hp => ?_, hb, fun H a ns hl _ hT hS => ⟨a, ns, rfl, hS, hl, ⟨#[], hT _ (List.mem_cons_self ..), trivial⟩, fun _ => rfl⟩, fun base _ _ hTB => ?_⟩
    · cases List.mem_singleton.mp hp
      exact c.empty _ (List.mem_cons_self ..)
    · cases List.mem_singleton.mp hp
      exact c.out _ (List.mem_cons_self ..)
    · cases List.mem_singleton.mp hp
      exact PySem.W.codeHd_of_K KX (c.hd _ (List.mem_cons_self ..))
    · refine hF base ?_
      · have t := hTB _ (List.mem_cons_self ..)
        exact ⟨t.code, t.bm, t.gP⟩
