import PyProof.Rows.All
import Wide.All
import OpenK.AllK
import Wide.FinOn
import HandS.AnyAll
import HandS.Codes
import HandS.Conv
import HandS.Defaults
import HandS.Ends
import HandS.Evl
import HandS.ExcField
import HandS.ExcInit
import HandS.ExcIs
import HandS.ExcOwn
import HandS.FStr
import HandS.ForMost
import HandS.Head0
import HandS.Head1
import HandS.Head2
import HandS.HeadEnd
import HandS.HeadHook1
import HandS.HeadHook2
import HandS.HeadHook3
import HandS.HeadHook4
import HandS.HeadWalk
import HandS.HotCalls
import HandS.IsInst
import HandS.MakeKw
import HandS.MakeKwOnly
import HandS.More
import HandS.Property
import HandS.SortInts
import HandS.Star
import HandS.Steps
import HandS.Strs
import HandS.Walk
import HandS.Wide
import HandS.Words
import HandS.WordsExc
import KE.KExcIs
import PySem.Challenge.RW_wardwork_k46_packed_letters
set_option Elab.async false
set_option linter.all false
set_option maxRecDepth 100000
set_option maxHeartbeats 4000000
/-! Wk: rules that the layer lacks, and steps that read a term from the left. -/
namespace Wk
open PySem PySem.Spec PyProof.Rows L2

/-! ### rules -/
section
variable {X : Cx}
theorem get_list : PGet X (rIxL X.K) := by
  intro pins s σ H o i ov iv Q I ro ri h
  obtain ⟨p, xs, k, z, rfl, rfl, hq, he, q⟩ := h
  cases ro
  obtain ⟨t, rfl⟩ := ri
  obtain ⟨its, r, pl, hz⟩ := I.list hq
  obtain ⟨j, e1, e2, e3, e4, e5⟩ := atI_get he
  obtain ⟨w, ew, rw'⟩ := r.get e2
  have hl := r.length
  have hn := line63
  have done : EP X pins σ Q w s := ⟨z, H, I, rw', q⟩
  by_cases h0 : 0 ≤ k
  · have hj : k.toNat = j := by
      rw [seqIndex_of h0 e5] at e1
      exact Option.some.inj e1
    exact wpAny_getItem_list pl.isList h0 (by omega) (by rw [hj]; simpa using ew) done
  · have hj : (k + (its.toArray.size : Int)).toNat = j := by
      rw [seqIndex_neg (by omega) e4] at e1
      rw [List.size_toArray, ← hl]
      exact Option.some.inj e1
    exact wpAny_getItem_list_neg pl.isList (by omega) (by rw [List.size_toArray] <;> omega) (by omega) (by rw [hj]; simpa using ew) done
end

/-- the built-in names that the module leaves as they are -/
structure Bt (mg : Str → Option Value) : Prop where
  b_int : mg "int" = none
  b_len : mg "len" = none
  b_range : mg "range" = none
  b_list : mg "list" = none
  b_abs : mg "abs" = none
  b_min : mg "min" = none
  b_max : mg "max" = none
  b_isinstance : mg "isinstance" = none
  b_bool : mg "bool" = none
  b_str : mg "str" = none
  b_tuple : mg "tuple" = none
  b_dict : mg "dict" = none
  b_sorted : mg "sorted" = none
  b_all : mg "all" = none
  b_any : mg "any" = none
  b_zip : mg "zip" = none
  b_enumerate : mg "enumerate" = none
  b_sum : mg "sum" = none
/-! ### heaps: how they may change -/
/-- all that H knows outside S stands in H' -/
def Upt (S : List Addr) (H H' : Hp) : Prop := ∀ b o, b ∉ S → H b = some o → H' b = some o
theorem Upt.refl {S : List Addr} (H : Hp) : Upt S H H := fun _ _ _ h => h
theorem Upt.trans {S : List Addr} {H H1 H2 : Hp} (a : Upt S H H1) (b : Upt S H1 H2) : Upt S H H2 := fun c o n h => b c o n (a c o n h)
theorem Upt.mono {S T : List Addr} {H H1 : Hp} (h : ∀ b ∈ S, b ∈ T) (a : Upt S H H1) : Upt T H H1 := fun c o n e => a c o (fun z => n (h c z)) e
theorem Upt.at1 {s b : Addr} {o : HO} {H H1 : Hp} (a : Upt [s] H H1) (n : b ≠ s) (e : H b = some o) : H1 b = some o := a b o (fun z => n (List.mem_singleton.mp z)) e
theorem Upt.at0 {b : Addr} {o : HO} {H H1 : Hp} (a : Upt [] H H1) (e : H b = some o) : H1 b = some o := a b o (fun z => by cases z) e
theorem Upt.free {S : List Addr} {H H1 : Hp} {b : Addr} (a : Upt S H H1) (n : b ∉ S) (e : H1 b = none) : H b = none := by
  cases q : H b with
  | none => rfl
  | some o => rw [a b o n q] at e; cases e
theorem Upt.upd {s : Addr} {o : HO} {H : Hp} : Upt [s] H (upd H s o) := fun b u n e => by
  rw [upd_ne (fun z => n (List.mem_singleton.mpr z))]; exact e
theorem Upt.seqL {S : List Addr} {K : PySem.W.Frag} {H H1 : Hp} {a : Addr} {xs : List V} (u : Upt S H H1) (n : a ∉ S) (h : SqL K H a xs) : SqL K H1 a xs := by
  rcases h with (h | ⟨o, h⟩) | h
  · exact .inl (.inl (u _ _ n h))
  · exact .inl (.inr ⟨o, u _ _ n h⟩)
  · exact .inr h
theorem Upt.seqT {S : List Addr} {K : PySem.W.Frag} {H H1 : Hp} {a : Addr} {xs : List V} (u : Upt S H H1) (n : a ∉ S) (h : SqT K H a xs) : SqT K H1 a xs := by
  rcases h with (h | ⟨o, h⟩) | h
  · exact .inl (.inl (u _ _ n h))
  · exact .inl (.inr ⟨o, u _ _ n h⟩)
  · exact .inr h
theorem _root_.L2.SqL.upt {K : PySem.W.Frag} {H H1 : Hp} {a : Addr} {xs : List V} (h : SqL K H a xs) (u : Upt [] H H1) : SqL K H1 a xs := u.seqL (by simp) h
theorem _root_.L2.SqT.upt {K : PySem.W.Frag} {H H1 : Hp} {a : Addr} {xs : List V} (h : SqT K H a xs) (u : Upt [] H H1) : SqT K H1 a xs := u.seqT (by simp) h
/-- o is new at p -/
structure New (H H' : Hp) (p : Addr) (o : HO) : Prop where
  no : H p = none
  at_ : H' p = some o
  keep : Upt [] H H'
theorem New.of {H : Hp} {p : Addr} {o : HO} (h : H p = none) : New H (upd H p o) p o := ⟨h, upd_same, fun b u _ e => by rw [upd_ne (ne_of_none e h)]; exact e⟩
theorem New.ne {H H' : Hp} {p b : Addr} {o u : HO} (n : New H H' p o) (h : H b = some u) : b ≠ p := ne_of_none h n.no
theorem New.ne' {H H' : Hp} {p b : Addr} {o u : HO} (n : New H H' p o) (h : H b = some u) : p ≠ b := Ne.symm (n.ne h)
/-- o stands at l now, nothing else has changed -/
structure Chg (H H' : Hp) (l : Addr) (o : HO) : Prop where
  at_ : H' l = some o
  keep : Upt [l] H H'
theorem Chg.of {H : Hp} {p : Addr} {o : HO} : Chg H (upd H p o) p o := ⟨upd_same, Upt.upd⟩

/-! ### steps -/
section
variable {K : PySem.W.Frag} {σ : L2.St} {H : Hp} {Q : VK} {QA : List V → Hp → Prop} {QT : Bool → Hp → Prop} {ta tb tc te tv : TE} {tt tu : TT} {t tr : TA} {u1 u2 : TS} {D : Ends} {v x y : V} {i j : Int} {r : R2}
theorem w_var {n : Nat} (h : σ[n]? = some (some v)) (q : Q v H) : tVar n σ H Q := ⟨v, h, q⟩
theorem w_c (q : Q v H) : tC v σ H Q := q
theorem w_op (h : ta σ H fun x H1 => tb σ H1 fun y H2 => r x y H2 Q) : tOp r ta tb σ H Q := h
theorem w_un {g : V → Hp → VK → Prop} (h : ta σ H fun x H1 => g x H1 Q) : tUn g ta σ H Q := h
theorem w_I0 {g : Int → Int → V} (q : Q (g i j) H) : rI0 g (.int i) (.int j) H Q := ⟨i, j, rfl, rfl, q⟩
theorem w_I {C : Int → Int → Prop} {g : Int → Int → V} (c : C i j) (q : Q (g i j) H) : rI C g (.int i) (.int j) H Q := ⟨i, j, rfl, rfl, c, q⟩
theorem w_U {g : Int → V} (q : Q (g i) H) : rU g (.int i) H Q := ⟨i, rfl, q⟩
theorem w_eq (h : scal x y = true) (q : Q (.bl (decide (x = y))) H) : rEq x y H Q := ⟨h, q⟩
theorem w_ne (h : scal x y = true) (q : Q (.bl (!decide (x = y))) H) : rNe x y H Q := ⟨h, q⟩
theorem dec_int (i j : Int) : decide (V.int i = V.int j) = decide (i = j) := by
  by_cases h : i = j
  · subst h; simp
  · rw [decide_eq_false h, decide_eq_false (fun e => h (V.int.inj e))]
theorem dec_str (i j : Str) : decide (V.str i = V.str j) = decide (i = j) := by
  by_cases h : i = j
  · subst h; simp
  · rw [decide_eq_false h, decide_eq_false (fun e => h (V.str.inj e))]
theorem w_eqI (q : Q (.bl (decide (i = j))) H) : rEq (.int i) (.int j) H Q := ⟨rfl, by rw [dec_int]; exact q⟩
theorem w_neI (q : Q (.bl (!decide (i = j))) H) : rNe (.int i) (.int j) H Q := ⟨rfl, by rw [dec_int]; exact q⟩
theorem w_eqS {a b : Str} (q : Q (.bl (decide (a = b))) H) : rEq (.str a) (.str b) H Q := ⟨rfl, by rw [dec_str]; exact q⟩
theorem w_neS {a b : Str} (q : Q (.bl (!decide (a = b))) H) : rNe (.str a) (.str b) H Q := ⟨rfl, by rw [dec_str]; exact q⟩
theorem w_test (h : te σ H fun x H' => ∃ k, x = .bl k ∧ QT k H') : tTest te σ H QT := h
theorem w_tB (h : te σ H fun x H' => ∃ k, x = .bl k ∧ QT k H') : tB te σ H QT := h
theorem w_k {b : Bool} {P : Bool → Prop} (q : P b) : ∃ k, V.bl b = .bl k ∧ P k := ⟨b, rfl, q⟩
theorem w_not (h : tt σ H fun c H1 => QT (!c) H1) : tNot tt σ H QT := h
theorem w_and (h : tt σ H fun c H1 => if c = true then tu σ H1 QT else QT false H1) : tAnd tt tu σ H QT := h
theorem w_or (h : tt σ H fun c H1 => if c = true then QT true H1 else tu σ H1 QT) : tOr tt tu σ H QT := h
theorem w_andV (h : ta σ H fun x H1 => ∃ c, x = .bl c ∧ if c = true then tb σ H1 Q else Q (.bl false) H1) : tAndV ta tb σ H Q := h
theorem w_orV (h : ta σ H fun x H1 => ∃ c, x = .bl c ∧ if c = true then Q (.bl true) H1 else tb σ H1 Q) : tOrV ta tb σ H Q := h
theorem w_notV (h : ta σ H fun x H1 => ∃ c, x = .bl c ∧ Q (.bl (!c)) H1) : tNotV ta σ H Q := h
theorem w_ifE (h : tt σ H fun c H1 => if c = true then ta σ H1 Q else tb σ H1 Q) : tIf tt ta tb σ H Q := h
theorem w_next (h : D.nx σ H) : tNext D σ H := h
theorem w_seq (h : u1 { D with nx := u2 D } σ H) : tSeq u1 u2 D σ H := h
theorem w_ifS (h : tt σ H fun b H1 => if b = true then u1 D σ H1 else u2 D σ H1) : tIfS tt u1 u2 D σ H := h
theorem w_ret (h : te σ H D.rt) : tRet te D σ H := h
theorem w_retN (h : D.rt .non H) : tRetN D σ H := h
theorem w_drop (h : te σ H fun _ H1 => D.nx σ H1) : tDrop te D σ H := h
theorem w_set {n : Nat} (h : te σ H fun x H1 => D.nx (σ.set n (some x)) H1) : tAsg te (gName n) D σ H := h
theorem w_asg {g : TG} (h : te σ H fun x H1 => g x σ H1 D.nx) : tAsg te g D σ H := h
theorem w_nil (q : QA [] H) : tNil σ H QA := q
theorem w_cons (h : ta σ H fun x H1 => tr σ H1 fun xs H2 => QA (x :: xs) H2) : tCons ta tr σ H QA := h
/-- a new object, and what follows with its address -/
def KNew (n : Nat) (H : Hp) (o : HO) (Q : VK) : Prop := n ≤ sizeLine ∧ ∀ p, H p = none → Q (.ref p) (upd H p o)
theorem w_tup (h : t σ H fun xs H1 => KNew xs.length H1 (.tup xs) Q) : tTup t σ H Q := h
theorem w_lst (h : t σ H fun xs H1 => KNew xs.length H1 (.lst xs) Q) : tLst t σ H Q := h
theorem w_new {n : Nat} {o : HO} (hs : n ≤ sizeLine) (h : ∀ p H2, New H H2 p o → Q (.ref p) H2) : KNew n H o Q := ⟨hs, fun p hp => h p _ (New.of hp)⟩
theorem w_dnew (h : ∀ p H2, New H H2 p (.dK []) → Q (.ref p) H2) : tDNewK σ H Q := fun p hp => h p _ (New.of hp)
/-- an attribute read -/
def KFld (K : PySem.W.Frag) (f : Str) (x : V) (H : Hp) (Q : VK) : Prop := ∃ a C dx fs v, x = .ref a ∧ H a = some (.ins C dx fs) ∧ Cls K C ∧ NoAttr K C f ∧ fs.lookup f = some v ∧ Q v H
theorem w_fld {f : Str} (h : ta σ H fun x H1 => KFld K f x H1 Q) : tFld K ta f σ H Q := h
theorem w_kfld {f : Str} {a C dx : Addr} {fs : List (Str × V)} (ho : H a = some (.ins C dx fs)) (c : Cls K C) (n : NoAttr K C f) (l : fs.lookup f = some v) (q : Q v H) : KFld K f (.ref a) H Q := ⟨a, C, dx, fs, v, rfl, ho, c, n, l, q⟩
/-- calls of built-ins -/
def CB (g : List V → Hp → VK → Prop) (vs : List V) (H : Hp) (Q : VK) : Prop := g vs H Q
theorem w_cb {g : List V → Hp → VK → Prop} (h : t σ H fun vs H1 => CB g vs H1 Q) : tCB g t σ H Q := h
/-- calls of defs -/
theorem w_call {sp : Sp} {E : XK} (h : t σ H fun vs H1 => sp vs H1 Q E) : tCall sp [] E t σ H Q := by
  show t σ H fun vs H1 => sp (vs ++ []) H1 Q E
  simpa only [List.append_nil] using h
theorem w_callD {sp : Sp} {E : XK} {dvs : List V} (h : t σ H fun vs H1 => sp (vs ++ dvs) H1 Q E) : tCall sp dvs E t σ H Q := h
/-- methods of lists, texts -/
def KBM (K : PySem.W.Frag) (T : String) (g : V → List V → Hp → VK → Prop) (t : TA) (σ : L2.St) (x : V) (H : Hp) (Q : VK) : Prop := tyV K T x H ∧ t σ H fun xs H2 => g x xs H2 Q
theorem w_bm {T : String} {g : V → List V → Hp → VK → Prop} (h : ta σ H fun x H1 => KBM K T g t σ x H1 Q) : tBM K T g ta t σ H Q := h
theorem w_kbm {T : String} {g : V → List V → Hp → VK → Prop} (ty : tyV K T x H) (h : t σ H fun xs H2 => g x xs H2 Q) : KBM K T g t σ x H Q := ⟨ty, h⟩
def KBM0 (K : PySem.W.Frag) (T : String) (g : V → List V → Hp → VK → Prop) (x : V) (H : Hp) (Q : VK) : Prop := tyV K T x H ∧ g x [] H Q
theorem w_bm0 {T : String} {g : V → List V → Hp → VK → Prop} (h : ta σ H fun x H1 => KBM0 K T g x H1 Q) : tBM0 K T g ta σ H Q := h
theorem w_kbm0 {T : String} {g : V → List V → Hp → VK → Prop} (ty : tyV K T x H) (h : g x [] H Q) : KBM0 K T g x H Q := ⟨ty, h⟩
theorem ty_list {p : Addr} {xs : List V} (h : SqL K H p xs) : tyV K "list" (.ref p) H := Or.inl ⟨rfl, _, h⟩
theorem w_append {l : Addr} {xs : List V} (h : H l = some (.lst xs)) (hz : xs.length < sizeLine) (q : ∀ H2, Chg H H2 l (.lst (xs ++ [y])) → Q .non H2) : rAppend (.ref l) [y] H Q := ⟨l, xs, y, rfl, rfl, h, hz, q _ Chg.of⟩
theorem w_popAt {l : Addr} {xs : List V} {n : Nat} (h : H l = some (.lst xs)) (hn : n < xs.length) (hb : n < 2 ^ 62) (hv : xs[n]? = some y) (q : ∀ H2, Chg H H2 l (.lst (xs.eraseIdx n)) → Q y H2) : rPopAt (.ref l) [.int (n : Int)] H Q :=
  ⟨l, xs, (n : Int), n, y, rfl, rfl, h, by omega, by omega, by rw [seqIndex_of (by omega) (by omega)]; simp, hv, q _ Chg.of⟩
/-- items -/
theorem w_ixL {p : Addr} {xs : List V} (h : SqL K H p xs) (ha : atI xs i = some v) (q : Q v H) : rIxL K (.ref p) (.int i) H Q := ⟨p, xs, i, v, rfl, rfl, h, ha, q⟩
theorem w_ixT {p : Addr} {xs : List V} (h : SqT K H p xs) (ha : atI xs i = some v) (q : Q v H) : rIxT K (.ref p) (.int i) H Q := ⟨p, xs, i, v, rfl, rfl, h, ha, q⟩
theorem w_ixS {z : Str} {c : Nat} (hz : z.length ≤ sizeLine) (ha : atI z.cps.toList i = some c) (q : Q (.str ⟨#[c]⟩) H) : rIxS (.str z) (.int i) H Q := ⟨z, i, c, rfl, rfl, hz, ha, q⟩
theorem w_setI {p : Addr} {xs : List V} {n : Nat} {P : Hp → Prop} (h : H p = some (.lst xs)) (hn : ixN xs.length i = some n) (q : ∀ H2, Chg H H2 p (.lst (xs.set n v)) → P H2) : rSetL (.ref p) (.int i) v H P := ⟨p, xs, i, n, rfl, rfl, h, hn, q _ Chg.of⟩
theorem w_gsub {t0 t1 : TE} {ts : TSet} {P : L2.St → Hp → Prop} (h : t0 σ H fun o H1 => t1 σ H1 fun i H2 => ts o i v H2 fun H3 => P σ H3) : gSub t0 t1 ts v σ H P := h
theorem w_aug {n : Nat} {ti : TIp} (hx : σ[n]? = some (some x)) (h : te σ H fun y H1 => ti x y H1 fun z H2 => D.nx (σ.set n (some z)) H2) : tAug n te ti D σ H := ⟨x, hx, h⟩
theorem w_augS {t0 t1 : TE} {tg : V → V → Hp → VK → Prop} {ti : TIp} {ts : TSet} (h : t0 σ H fun o H1 => t1 σ H1 fun i H2 => tg o i H2 fun x H3 => te σ H3 fun y H4 => ti x y H4 fun z H5 => ts o i z H5 fun H6 => D.nx σ H6) : tAugS t0 t1 te tg ti ts D σ H := h
theorem w_ipI {f : Int → Int → Int} (q : Q (.int (f i j)) H) : ipI f (.int i) (.int j) H Q := ⟨i, j, rfl, rfl, q⟩
theorem w_ixAny {p : Addr} {xs : List V} (h : SqL K H p xs ∨ SqT K H p xs) (ha : atI xs i = some v) (q : Q v H) : rIx K (.ref p) (.int i) H Q := by
  rcases h with h | h
  · exact .inl (w_ixL h ha q)
  · exact .inr (.inl (w_ixT h ha q))
theorem w_ixAnyS {z : Str} {c : Nat} (hz : z.length ≤ sizeLine) (ha : atI z.cps.toList i = some c) (q : Q (.str ⟨#[c]⟩) H) : rIx K (.str z) (.int i) H Q := .inr (.inr (w_ixS hz ha q))
/-- ways -/
theorem w_ite {p : Prop} [Decidable p] {A B : Prop} (h1 : p → A) (h2 : ¬ p → B) : if decide p = true then A else B := by
  by_cases h : p
  · rw [decide_eq_true h]; exact h1 h
  · rw [decide_eq_false h]; exact h2 h
theorem w_iteN {p : Prop} [Decidable p] {A B : Prop} (h1 : ¬ p → A) (h2 : p → B) : if (!decide p) = true then A else B := by
  by_cases h : p
  · rw [decide_eq_true h]; exact h2 h
  · rw [decide_eq_false h]; exact h1 h
theorem w_iteT {p : Prop} [Decidable p] {A B : Prop} (hp : p) (h : A) : if decide p = true then A else B := by rw [decide_eq_true hp]; exact h
theorem w_iteF {p : Prop} [Decidable p] {A B : Prop} (hp : ¬ p) (h : B) : if decide p = true then A else B := by rw [decide_eq_false hp]; exact h
theorem w_iteNT {p : Prop} [Decidable p] {A B : Prop} (hp : ¬ p) (h : A) : if (!decide p) = true then A else B := by rw [decide_eq_false hp]; exact h
theorem w_iteNF {p : Prop} [Decidable p] {A B : Prop} (hp : p) (h : B) : if (!decide p) = true then A else B := by rw [decide_eq_true hp]; exact h
theorem w_true {A B : Prop} (h : A) : if true = true then A else B := h
theorem w_false {A B : Prop} (h : B) : if false = true then A else B := h
theorem w_ntrue {A B : Prop} (h : B) : if (!true) = true then A else B := h
theorem w_nfalse {A B : Prop} (h : A) : if (!false) = true then A else B := h
end
theorem w_cut {u1 u2 : TS} {D : Ends} {σ : L2.St} {H : Hp} (Mid : L2.St → Hp → Prop) (h1 : u1 { D with nx := Mid } σ H) (h2 : ∀ σ' H', Mid σ' H' → u2 D σ' H') : C8.tCut u1 u2 D σ H := ⟨Mid, h1, h2⟩
theorem log2_lt {m : Int} (h0 : 0 < m) (h1 : m ≤ 4611686018427387904) : CDivW 0 m := ⟨h0, by
  have h : m.natAbs < 2 ^ 63 := by omega
  have := Nat.log2_lt (n := m.natAbs) (k := 63) (by omega)
  omega⟩
theorem item_int {ns : List Int} {i : Nat} {y : V} (h : (ns.map V.int)[i]? = some y) : ∃ n, y = V.int n := by
  rw [List.getElem?_map] at h
  cases e : ns[i]? with
  | none => rw [e] at h; cases h
  | some n => rw [e] at h; exact ⟨n, (Option.some.inj h).symm⟩
theorem atI_ints {ns : List Int} {i : Int} (h0 : 0 ≤ i) (h1 : i < ns.length) : ∃ n, n ∈ ns ∧ atI (ns.map V.int) i = some (V.int n) := by
  obtain ⟨j, rfl⟩ := Int.eq_ofNat_of_zero_le h0
  have hj : j < ns.length := by omega
  exact ⟨ns[j], List.getElem_mem hj, atI_nat (by rw [List.getElem?_map, List.getElem?_eq_getElem hj]; rfl)⟩
/-! ### what kind a value is of -/
section
variable {K : PySem.W.Frag} {H : Hp} {Q : VK} {x : V}
theorem w_isN (q : Q (.bl (decide (x = .non))) H) : rIsN x .non H Q := ⟨rfl, q⟩
theorem w_notN (q : Q (.bl (!decide (x = .non))) H) : rNotN x .non H Q := ⟨rfl, q⟩
theorem c_isi {t T : String} {b : Bool} (ty : TyX K H x (.type t)) (h : kitB t T = some b) (q : Q (.bl b) H) : CB (rIsi K) [x, .ty T] H Q := ⟨x, .ty T, .type t, .type T, b, rfl, .ty T, ty, kit_ty h, q⟩
theorem ty_non : TyX K H .non (.type "NoneType") := .base .non
theorem ty_bl {b : Bool} : TyX K H (.bl b) (.type "bool") := .base (.bl b)
theorem ty_int {i : Int} : TyX K H (.int i) (.type "int") := .base (.int i)
theorem ty_str {z : Str} : TyX K H (.str z) (.type "str") := .base (.str z)
theorem ty_L {a : Addr} {xs : List V} (h : SqL K H a xs) : TyX K H (.ref a) (.type "list") := by
  rcases h with (h | ⟨o, h⟩) | ⟨o, its, n, h1, h2, _⟩
  · exact .base (.lst h)
  · exact .base (.frz h)
  · exact .kList h1 h2
theorem ty_T {a : Addr} {xs : List V} (h : SqT K H a xs) : TyX K H (.ref a) (.type "tuple") := by
  rcases h with (h | ⟨o, h⟩) | ⟨o, its, n, h1, h2, _⟩
  · exact .base (.tup h)
  · exact .fTuple h
  · exact .kTuple h1 h2
theorem k_nn : kitB "NoneType" "bool" = some false := by decide +kernel
theorem k_bb : kitB "bool" "bool" = some true := by decide +kernel
theorem k_bi : kitB "bool" "int" = some true := by decide +kernel
theorem k_ib : kitB "int" "bool" = some false := by decide +kernel
theorem k_ii : kitB "int" "int" = some true := by decide +kernel
theorem k_is : kitB "int" "str" = some false := by decide +kernel
theorem k_il : kitB "int" "list" = some false := by decide +kernel
theorem k_it : kitB "int" "tuple" = some false := by decide +kernel
theorem k_bs : kitB "bool" "str" = some false := by decide +kernel
theorem k_bl : kitB "bool" "list" = some false := by decide +kernel
theorem k_bt : kitB "bool" "tuple" = some false := by decide +kernel
theorem k_sb : kitB "str" "bool" = some false := by decide +kernel
theorem k_si : kitB "str" "int" = some false := by decide +kernel
theorem k_ss : kitB "str" "str" = some true := by decide +kernel
theorem k_sl : kitB "str" "list" = some false := by decide +kernel
theorem k_st : kitB "str" "tuple" = some false := by decide +kernel
theorem k_lb : kitB "list" "bool" = some false := by decide +kernel
theorem k_li : kitB "list" "int" = some false := by decide +kernel
theorem k_ls : kitB "list" "str" = some false := by decide +kernel
theorem k_ll : kitB "list" "list" = some true := by decide +kernel
theorem k_lt : kitB "list" "tuple" = some false := by decide +kernel
theorem k_tb : kitB "tuple" "bool" = some false := by decide +kernel
theorem k_ti : kitB "tuple" "int" = some false := by decide +kernel
theorem k_ts : kitB "tuple" "str" = some false := by decide +kernel
theorem k_tl : kitB "tuple" "list" = some false := by decide +kernel
theorem k_tt : kitB "tuple" "tuple" = some true := by decide +kernel
theorem k_ni : kitB "NoneType" "int" = some false := by decide +kernel
theorem k_ns : kitB "NoneType" "str" = some false := by decide +kernel
theorem k_nl : kitB "NoneType" "list" = some false := by decide +kernel
theorem k_nt : kitB "NoneType" "tuple" = some false := by decide +kernel
end
/-! ### data -/
/-- what is no list and no tuple -/
inductive Sc : V → PyData → Prop where
  | non : Sc .non .none
  | bl (b : Bool) : Sc (.bl b) (.bool b)
  | int (i : Int) : Sc (.int i) (.int i)
  | str (x : Str) : Sc (.str x) (.str x)
/-- v is the datum d, lists and tuples nested at most n deep, none of them in S -/
def Dn (K : PySem.W.Frag) (S : List Addr) (H : Hp) : Nat → V → PyData → Prop
  | 0, v, d => Sc v d
  | n + 1, v, d => Sc v d ∨ (∃ a xs ds, v = .ref a ∧ d = .list ds ∧ a ∉ S ∧ SqL K H a xs ∧ xs.length ≤ 100000 ∧ Paired (Dn K S H n) xs ds) ∨
      (∃ a xs ds, v = .ref a ∧ d = .tuple ds ∧ a ∉ S ∧ SqT K H a xs ∧ xs.length ≤ 100000 ∧ Paired (Dn K S H n) xs ds)
section
variable {K : PySem.W.Frag} {S S' : List Addr} {H H' : Hp}
theorem Dn.sc {v : V} {d : PyData} (h : Sc v d) : ∀ {n : Nat}, Dn K S H n v d
  | 0 => h
  | _ + 1 => .inl h
theorem Dn.upt (u : Upt S' H H') (hs : ∀ a ∈ S', a ∈ S) : ∀ {n : Nat} {v : V} {d : PyData}, Dn K S H n v d → Dn K S H' n v d
  | 0, _, _, h => h
  | n + 1, v, d, h => by
    rcases h with h | ⟨a, xs, ds, e1, e2, ha, hq, hl, p⟩ | ⟨a, xs, ds, e1, e2, ha, hq, hl, p⟩
    · exact .inl h
    · exact .inr (.inl ⟨a, xs, ds, e1, e2, ha, u.seqL (fun z => ha (hs a z)) hq, hl, Paired.mapP p fun x y q => Dn.upt u hs q⟩)
    · exact .inr (.inr ⟨a, xs, ds, e1, e2, ha, u.seqT (fun z => ha (hs a z)) hq, hl, Paired.mapP p fun x y q => Dn.upt u hs q⟩)
theorem Dn.weak (hs : ∀ a ∈ S', a ∈ S) : ∀ {n : Nat} {v : V} {d : PyData}, Dn K S H n v d → Dn K S' H n v d
  | 0, _, _, h => h
  | n + 1, v, d, h => by
    rcases h with h | ⟨a, xs, ds, e1, e2, ha, hq, hl, p⟩ | ⟨a, xs, ds, e1, e2, ha, hq, hl, p⟩
    · exact .inl h
    · exact .inr (.inl ⟨a, xs, ds, e1, e2, fun z => ha (hs a z), hq, hl, Paired.mapP p fun x y q => Dn.weak hs q⟩)
    · exact .inr (.inr ⟨a, xs, ds, e1, e2, fun z => ha (hs a z), hq, hl, Paired.mapP p fun x y q => Dn.weak hs q⟩)
theorem Dn.up : ∀ {n m : Nat} {v : V} {d : PyData}, n ≤ m → Dn K S H n v d → Dn K S H m v d
  | 0, 0, _, _, _, h => h
  | 0, _ + 1, _, _, _, h => .inl h
  | n + 1, 0, _, _, l, _ => absurd l (by omega)
  | n + 1, m + 1, v, d, l, h => by
    rcases h with h | ⟨a, xs, ds, e1, e2, ha, hq, hl, p⟩ | ⟨a, xs, ds, e1, e2, ha, hq, hl, p⟩
    · exact .inl h
    · exact .inr (.inl ⟨a, xs, ds, e1, e2, ha, hq, hl, Paired.mapP p fun x y q => Dn.up (by omega) q⟩)
    · exact .inr (.inr ⟨a, xs, ds, e1, e2, ha, hq, hl, Paired.mapP p fun x y q => Dn.up (by omega) q⟩)
theorem Dn.tup {n : Nat} {a : Addr} {xs : List V} {ds : List PyData} (h : SqT K H a xs) (ha : a ∉ S) (hl : xs.length ≤ 100000) (p : Paired (Dn K S H n) xs ds) : Dn K S H (n + 1) (.ref a) (.tuple ds) := .inr (.inr ⟨a, xs, ds, rfl, rfl, ha, h, hl, p⟩)
theorem Dn.lst {n : Nat} {a : Addr} {xs : List V} {ds : List PyData} (h : SqL K H a xs) (ha : a ∉ S) (hl : xs.length ≤ 100000) (p : Paired (Dn K S H n) xs ds) : Dn K S H (n + 1) (.ref a) (.list ds) := .inr (.inl ⟨a, xs, ds, rfl, rfl, ha, h, hl, p⟩)
theorem Dn.int {n : Nat} {i : Int} : Dn K S H n (.int i) (.int i) := .sc (.int i)
theorem Dn.str {n : Nat} {z : Str} : Dn K S H n (.str z) (.str z) := .sc (.str z)
theorem Dn.non {n : Nat} : Dn K S H n .non .none := .sc .non
theorem Dn.bl {n : Nat} {b : Bool} : Dn K S H n (.bl b) (.bool b) := .sc (.bl b)
theorem Dn.ints {n : Nat} : ∀ {ns : List Int}, Paired (Dn K S H n) (ns.map V.int) (ns.map PyData.int)
  | [] => .nil
  | _ :: _ => .cons Dn.int Dn.ints
end
theorem paired_at {α β : Type} {F : α → β → Prop} : ∀ {xs : List α} {ys : List β} {i : Nat} {x : α}, Paired F xs ys → xs[i]? = some x → ∃ y, ys[i]? = some y ∧ F x y
  | _, _, _, _, .nil, e => by simp at e
  | _, _, 0, _, .cons r _, e => by simp at e; subst e; exact ⟨_, rfl, r⟩
  | _, _, i + 1, x, .cons _ t, e => by
    obtain ⟨u, h1, h2⟩ := paired_at (i := i) (x := x) t (by simpa using e)
    exact ⟨u, by simpa using h1, h2⟩
/-! ### loops -/
section
variable {K : PySem.W.Frag} {σ : L2.St} {H : Hp} {Q : VK} {tl : TE} {ta : TA} {tb : TS} {D : Ends} {g : TG}
/-- the loop's own part of a for over J -/
def KFor (J : It) (g : TG) (tb : TS) (D : Ends) (σ : L2.St) (H : Hp) : Prop := ∃ W : Nat → Nat → L2.St → Hp → Prop, (∃ m, W 0 m σ H) ∧ ∀ i m σ H, W i m σ H →
  (J.stop i H ∧ D.nx σ H) ∨ (J.go i H ∧ ∃ N : L2.St → Hp → Prop, (∀ σ' H', N σ' H' → ∃ m', m' < m ∧ W (i + 1) m' σ' H') ∧ ∀ x H', J.yld i H x H' → g x σ H' fun σ2 H2 => tb { D with nx := N, ct := N, bk := D.nx } σ2 H2)
def KForL (K : PySem.W.Frag) (g : TG) (tb : TS) (D : Ends) (σ : L2.St) (x : V) (H : Hp) : Prop := ∃ a, x = .ref a ∧ (∃ xs, SqL K H a xs) ∧ KFor (Itl K a) g tb D σ H
def KForT (K : PySem.W.Frag) (g : TG) (tb : TS) (D : Ends) (σ : L2.St) (x : V) (H : Hp) : Prop := ∃ a, x = .ref a ∧ (∃ xs, SqT K H a xs) ∧ KFor (Itt K a) g tb D σ H
def KForS (g : TG) (tb : TS) (D : Ends) (σ : L2.St) (v : V) (H : Hp) : Prop := ∃ x, v = .str x ∧ KFor (Its x) g tb D σ H
def KForR (g : TG) (tb : TS) (D : Ends) (σ : L2.St) (vs : List V) (H : Hp) : Prop := ∃ j : Int, vs = [.int j] ∧ -(2 ^ 62) ≤ j ∧ j < 2 ^ 62 ∧ KFor (Itr 0 j.toNat) g tb D σ H
theorem w_forL (h : tl σ H fun x H1 => KForL K g tb D σ x H1) : tFor (iList K tl) g tb D σ H := h
theorem w_forT (h : tl σ H fun x H1 => KForT K g tb D σ x H1) : tFor (iTup K tl) g tb D σ H := h
theorem w_forS (h : tl σ H fun x H1 => KForS g tb D σ x H1) : tFor (iStr tl) g tb D σ H := h
theorem w_forR (h : ta σ H fun vs H1 => KForR g tb D σ vs H1) : tFor (iRng1 ta) g tb D σ H := h
theorem l_list {a : Addr} {xs : List V} {n : Nat} (h : SqL K H a xs) (Pv : Nat → L2.St → Hp → Prop) (h0 : Pv 0 σ H) (hl : ∀ i σ H, i ≤ xs.length → Pv i σ H → SqL K H a xs)
    (hs : ∀ i y σ H, xs[i]? = some y → Pv i σ H → tb { D with nx := Pv (i + 1), ct := Pv (i + 1), bk := D.nx } (σ.set n (some y)) H) (hd : ∀ σ H, Pv xs.length σ H → D.nx σ H) : KForL K (gName n) tb D σ (.ref a) H :=
  ⟨a, rfl, ⟨xs, h⟩, for_list (K := K) (a := a) (xs := xs) Pv h0 hl hs hd⟩
theorem l_tup {a : Addr} {xs : List V} {n : Nat} (h : SqT K H a xs) (Pv : Nat → L2.St → Hp → Prop) (h0 : Pv 0 σ H) (hl : ∀ i σ H, i ≤ xs.length → Pv i σ H → SqT K H a xs)
    (hs : ∀ i y σ H, xs[i]? = some y → Pv i σ H → tb { D with nx := Pv (i + 1), ct := Pv (i + 1), bk := D.nx } (σ.set n (some y)) H) (hd : ∀ σ H, Pv xs.length σ H → D.nx σ H) : KForT K (gName n) tb D σ (.ref a) H :=
  ⟨a, rfl, ⟨xs, h⟩, for_tup (K := K) (a := a) (xs := xs) Pv h0 hl hs hd⟩
theorem l_range {j : Int} {n m : Nat} (hj : j = (m : Int)) (hb : m ≤ 1000000) (Pv : Nat → L2.St → Hp → Prop) (h0 : Pv 0 σ H)
    (hs : ∀ (i : Nat) σ H, i < m → Pv i σ H → tb { D with nx := Pv (i + 1), ct := Pv (i + 1), bk := D.nx } (σ.set n (some (.int (i : Int)))) H) (hd : ∀ σ H, Pv m σ H → D.nx σ H) : KForR (gName n) tb D σ [.int j] H := by
  subst hj
  refine ⟨(m : Int), rfl, by omega, by omega, ?_⟩
  have e : ((m : Int)).toNat = m := by simp
  rw [e]
  refine for_range (lo := 0) (n := m) Pv h0 (fun i σ H hi p => ?_) hd
  have z : (0 : Int) + (i : Int) = (i : Int) := Int.zero_add _
  show tb _ (σ.set n (some (.int ((0 : Int) + (i : Int))))) H
  rw [z]
  exact hs i σ H hi p
theorem l_str {z : Str} {n : Nat} (Pv : Nat → L2.St → Hp → Prop) (h0 : Pv 0 σ H)
    (hs : ∀ (i c : Nat) σ H, z.cps.toList[i]? = some c → Pv i σ H → tb { D with nx := Pv (i + 1), ct := Pv (i + 1), bk := D.nx } (σ.set n (some (.str ⟨#[c]⟩))) H) (hd : ∀ σ H, Pv z.cps.toList.length σ H → D.nx σ H) : KForS (gName n) tb D σ (.str z) H := by
  have el : z.cps.toList.length = z.cps.size := by simp
  refine ⟨z, rfl, fun i m σ H => m = z.cps.size - i ∧ i ≤ z.cps.size ∧ Pv i σ H, ⟨z.cps.size, by simp, Nat.zero_le _, h0⟩, ?_⟩
  rintro i m σ H ⟨rfl, hi, p⟩
  by_cases hlt : i < z.cps.size
  · refine .inr ⟨hlt, Pv (i + 1), fun σ' H' p' => ⟨z.cps.size - (i + 1), by omega, rfl, hlt, p'⟩, fun x H' y => ?_⟩
    obtain ⟨e, c, hc, ev⟩ := y
    subst e
    subst ev
    exact hs i c σ H' (by rw [Array.getElem?_toList]; exact hc) p
  · have e2 : i = z.cps.size := by omega
    subst e2
    exact .inl ⟨Nat.le_refl _, hd _ _ (by rw [el]; exact p)⟩
/-! comprehensions -/
def KLc (J : It) (g : TG) (tt : TT) (te : TE) (vs : List Nat) (σ : L2.St) (H1 : Hp) (Q : VK) : Prop := ∀ D, H1 D = none → ∃ W : Nat → Nat → Hp → Prop, (∃ m, W 0 m (upd H1 D (.lst []))) ∧ ∀ i m H, W i m H →
  (J.stop i H ∧ Q (.ref D) H) ∨ (J.go i H ∧ ∃ Nx : Hp → Prop, (∀ H', Nx H' → ∃ m', m' < m ∧ W (i + 1) m' H') ∧ ∀ x H', J.yld i H x H' → g x (wipe σ vs) H' fun σ2 H2 => wipe σ2 vs = wipe σ vs ∧ tt σ2 H2 fun b H3 =>
    if b = true then te σ2 H3 fun y H4 => ∃ acc, H4 D = some (.lst acc) ∧ acc.length < sizeLine ∧ Nx (upd H4 D (.lst (acc ++ [y]))) else Nx H3)
def KLcR (g : TG) (tt : TT) (te : TE) (us : List Nat) (σ : L2.St) (Q : VK) (vs : List V) (H : Hp) : Prop := ∃ j : Int, vs = [.int j] ∧ -(2 ^ 62) ≤ j ∧ j < 2 ^ 62 ∧ KLc (Itr 0 j.toNat) g tt te us σ H Q
def KLcL (K : PySem.W.Frag) (g : TG) (tt : TT) (te : TE) (us : List Nat) (σ : L2.St) (Q : VK) (x : V) (H : Hp) : Prop := ∃ a, x = .ref a ∧ (∃ xs, SqL K H a xs) ∧ KLc (Itl K a) g tt te us σ H Q
def KLcT (K : PySem.W.Frag) (g : TG) (tt : TT) (te : TE) (us : List Nat) (σ : L2.St) (Q : VK) (x : V) (H : Hp) : Prop := ∃ a, x = .ref a ∧ (∃ xs, SqT K H a xs) ∧ KLc (Itt K a) g tt te us σ H Q
variable {tt : TT} {te : TE} {us : List Nat}
theorem w_lcR (h : ta σ H fun vs H1 => KLcR g tt te us σ Q vs H1) : tLc (iRng1 ta) g tt te us σ H Q := h
theorem w_lcL (h : tl σ H fun x H1 => KLcL K g tt te us σ Q x H1) : tLc (iList K tl) g tt te us σ H Q := h
theorem w_lcT (h : tl σ H fun x H1 => KLcT K g tt te us σ Q x H1) : tLc (iTup K tl) g tt te us σ H Q := h
/-- what is made stands behind the list at D -/
def KApp (D : Addr) (P : Hp → Prop) (y : V) (H : Hp) : Prop := ∃ acc, H D = some (.lst acc) ∧ acc.length < sizeLine ∧ P (upd H D (.lst (acc ++ [y])))
theorem w_kapp {D : Addr} {P : Hp → Prop} {y : V} {acc : List V} (h : H D = some (.lst acc)) (hz : acc.length < sizeLine) (q : ∀ H5, Chg H H5 D (.lst (acc ++ [y])) → P H5) : KApp D P y H := ⟨acc, h, hz, q _ Chg.of⟩
/-- [e for k in range(m)] -/
theorem lc_R {j : Int} {n m : Nat} (hj : j = (m : Int)) (hb : m ≤ 1000000) (Pv : Nat → Addr → Hp → Prop) (h0 : ∀ D H1, New H H1 D (.lst []) → Pv 0 D H1)
    (hs : ∀ (i : Nat) D H, i < m → Pv i D H → te ((σ.set n none).set n (some (.int (i : Int)))) H (KApp D (Pv (i + 1) D)))
    (hd : ∀ D H, Pv m D H → Q (.ref D) H) : KLcR (gName n) tYes te [n] σ Q [.int j] H := by
  subst hj
  refine ⟨(m : Int), rfl, by omega, by omega, fun D hD => ?_⟩
  have e : ((m : Int)).toNat = m := by simp
  rw [e]
  refine lc_range (lo := 0) (n := m) (fun i H => Pv i D H) (h0 D _ (New.of hD)) (fun i H hi p => ?_) fun H p => hd D H p
  have z : (0 : Int) + (i : Int) = (i : Int) := Int.zero_add _
  refine ⟨?_, ?_⟩
  · show List.set (List.set (List.set σ n none) n (some (V.int ((0 : Int) + (i : Int))))) n none = List.set σ n none
    simp
  · show te (List.set (List.set σ n none) n (some (V.int ((0 : Int) + (i : Int))))) H (KApp D (Pv (i + 1) D))
    rw [z]
    exact hs i D H hi p
/-- [e for x in xs] -/
theorem lc_L {a : Addr} {xs : List V} {n : Nat} (h : SqL K H a xs) (Pv : Nat → Addr → Hp → Prop) (h0 : ∀ D H1, New H H1 D (.lst []) → Pv 0 D H1) (hl : ∀ i D H, i ≤ xs.length → Pv i D H → SqL K H a xs)
    (hs : ∀ (i : Nat) x D H, xs[i]? = some x → Pv i D H → te ((σ.set n none).set n (some x)) H (KApp D (Pv (i + 1) D)))
    (hd : ∀ D H, Pv xs.length D H → Q (.ref D) H) : KLcL K (gName n) tYes te [n] σ Q (.ref a) H := by
  refine ⟨a, rfl, ⟨xs, h⟩, fun D hD => ?_⟩
  refine lc_list (K := K) (a := a) (xs := xs) (fun i H => Pv i D H) (h0 D _ (New.of hD)) (fun i H hi p => hl i D H hi p) (fun i x H hi p => ?_) fun H p => hd D H p
  refine ⟨?_, ?_⟩
  · show List.set (List.set (List.set σ n none) n (some x)) n none = List.set σ n none
    simp
  · show te (List.set (List.set σ n none) n (some x)) H (KApp D (Pv (i + 1) D))
    exact hs i x D H hi p
theorem lc_T {a : Addr} {xs : List V} {n : Nat} (h : SqT K H a xs) (Pv : Nat → Addr → Hp → Prop) (h0 : ∀ D H1, New H H1 D (.lst []) → Pv 0 D H1) (hl : ∀ i D H, i ≤ xs.length → Pv i D H → SqT K H a xs)
    (hs : ∀ (i : Nat) x D H, xs[i]? = some x → Pv i D H → te ((σ.set n none).set n (some x)) H (KApp D (Pv (i + 1) D)))
    (hd : ∀ D H, Pv xs.length D H → Q (.ref D) H) : KLcT K (gName n) tYes te [n] σ Q (.ref a) H := by
  refine ⟨a, rfl, ⟨xs, h⟩, fun D hD => ?_⟩
  refine lc_tup (K := K) (a := a) (xs := xs) (fun i H => Pv i D H) (h0 D _ (New.of hD)) (fun i H hi p => hl i D H hi p) (fun i x H hi p => ?_) fun H p => hd D H p
  refine ⟨?_, ?_⟩
  · show List.set (List.set (List.set σ n none) n (some x)) n none = List.set σ n none
    simp
  · show te (List.set (List.set σ n none) n (some x)) H (KApp D (Pv (i + 1) D))
    exact hs i x D H hi p
end
/-! ### built-ins, by names -/
section
variable {K : PySem.W.Frag} {H : Hp} {Q : VK} {i j : Int} {v : V}
def rInt1 : List V → Hp → VK → Prop := fun xs H Q => (∃ i, xs = [.int i] ∧ Q (.int i) H) ∨ ∃ k, xs = [.bl k] ∧ Q (.int (if k then 1 else 0)) H
def rAbs : List V → Hp → VK → Prop := fun xs H Q => ∃ i, xs = [.int i] ∧ Q (.int (if i < 0 then -i else i)) H
def rMax2 : List V → Hp → VK → Prop := fun xs H Q => ∃ i j, xs = [.int i, .int j] ∧ Q (.int (if j > i then j else i)) H
def rMin2 : List V → Hp → VK → Prop := fun xs H Q => ∃ i j, xs = [.int i, .int j] ∧ Q (.int (if j < i then j else i)) H
def rListOf (K : PySem.W.Frag) : List V → Hp → VK → Prop := fun xs H Q => ∃ p ys, xs = [.ref p] ∧ (SqL K H p ys ∨ SqT K H p ys) ∧ ∀ l, H l = none → Q (.ref l) (upd H l (.lst ys))
def rTupOf (K : PySem.W.Frag) : List V → Hp → VK → Prop := fun xs H Q => ∃ p ys, xs = [.ref p] ∧ ((SqL K H p ys ∧ ∀ l, H l = none → Q (.ref l) (upd H l (.tup ys))) ∨ (SqT K H p ys ∧ Q (.ref p) H))
def rLenS (K : PySem.W.Frag) : List V → Hp → VK → Prop := fun xs H Q => ∃ p ys, xs = [.ref p] ∧ (SqL K H p ys ∨ SqT K H p ys) ∧ Q (.int ys.length) H
def rLenT : List V → Hp → VK → Prop := fun xs H Q => ∃ z, xs = [.str z] ∧ z.length ≤ sizeLine ∧ Q (.int z.length) H
variable {X : Cx}
theorem b_int : CallR X (.type "int") rInt1 := call_int1
theorem b_abs : CallR X (.builtin "abs") rAbs := call_abs
theorem b_max (hc : X.calm = true) : CallR X (.builtin "max") rMax2 := call_max2 hc
theorem b_min (hc : X.calm = true) : CallR X (.builtin "min") rMin2 := call_min2 hc
theorem b_list : CallR X (.type "list") (rListOf X.K) := call_list_of
theorem b_tuple : CallR X (.type "tuple") (rTupOf X.K) := call_tuple_of
theorem b_len : CallR X (.builtin "len") (rLenS X.K) := call_len_seq
theorem b_lenT : CallR X (.builtin "len") rLenT := call_len_str
theorem c_int (q : Q (.int i) H) : CB rInt1 [.int i] H Q := Or.inl ⟨i, rfl, q⟩
theorem c_intB {b : Bool} (q : Q (.int (if b then 1 else 0)) H) : CB rInt1 [.bl b] H Q := Or.inr ⟨b, rfl, q⟩
theorem c_abs (q : Q (.int (if i < 0 then -i else i)) H) : CB rAbs [.int i] H Q := ⟨i, rfl, q⟩
theorem c_max (q : Q (.int (if j > i then j else i)) H) : CB rMax2 [.int i, .int j] H Q := ⟨i, j, rfl, q⟩
theorem c_min (q : Q (.int (if j < i then j else i)) H) : CB rMin2 [.int i, .int j] H Q := ⟨i, j, rfl, q⟩
theorem c_listL {p : Addr} {ys : List V} (h : SqL K H p ys) (q : ∀ l H2, New H H2 l (.lst ys) → Q (.ref l) H2) : CB (rListOf K) [.ref p] H Q := ⟨p, ys, rfl, .inl h, fun l hl => q l _ (New.of hl)⟩
theorem c_listT {p : Addr} {ys : List V} (h : SqT K H p ys) (q : ∀ l H2, New H H2 l (.lst ys) → Q (.ref l) H2) : CB (rListOf K) [.ref p] H Q := ⟨p, ys, rfl, .inr h, fun l hl => q l _ (New.of hl)⟩
theorem c_tupL {p : Addr} {ys : List V} (h : SqL K H p ys) (q : ∀ l H2, New H H2 l (.tup ys) → Q (.ref l) H2) : CB (rTupOf K) [.ref p] H Q := ⟨p, ys, rfl, .inl ⟨h, fun l hl => q l _ (New.of hl)⟩⟩
theorem c_lenL {p : Addr} {ys : List V} (h : SqL K H p ys) (q : Q (.int (ys.length : Int)) H) : CB (rLenS K) [.ref p] H Q := ⟨p, ys, rfl, .inl h, q⟩
theorem c_lenT {p : Addr} {ys : List V} (h : SqT K H p ys) (q : Q (.int (ys.length : Int)) H) : CB (rLenS K) [.ref p] H Q := ⟨p, ys, rfl, .inr h, q⟩
theorem c_lenA {p : Addr} {ys : List V} (h : SqL K H p ys ∨ SqT K H p ys) (q : Q (.int (ys.length : Int)) H) : CB (rLenS K) [.ref p] H Q := ⟨p, ys, rfl, h, q⟩
theorem c_lenS {z : Str} (h : z.length ≤ sizeLine) (q : Q (.int (z.length : Int)) H) : CB rLenT [.str z] H Q := ⟨z, rfl, h, q⟩
end
end Wk
set_option Elab.async false
set_option linter.all false
set_option maxRecDepth 100000
set_option maxHeartbeats 4000000
/-! Wk: small defs without effects, walked in any surroundings (for what a generator expression calls). -/
namespace Wk
open PySem PySem.Spec PyProof.Rows L2
abbrev Pins := List (Addr × Obj)
/-- the frame's names hold vals, what the top left stands, and the pinned objects too -/
structure RS (base : Heap) (env : Env) (vals : List (Str × V)) (G : Pins) (m : Str → Option Value) (s : Shared) : Prop where
  hb : ∀ b o, base.get? b = some o → s.heap.get? b = some o
  hn : s.heap.Ns env.locals m
  hm : ∀ p ∈ vals, ∃ u, m p.1 = some u ∧ RelV p.2 u
  hG : ∀ q ∈ G, s.heap.get? q.1 = some q.2
/-- the expression e gives v and keeps all that stands -/
def RE (prog : Program) (w : World) (base : Heap) (D : Nat) (env : Env) (vals : List (Str × V)) (G : Pins) (e : Expr) (v : V) : Prop :=
  ∀ (A : Around) (E : Value → Shared → Prop) (s : Shared) (m : Str → Option Value), A.handled = none → A.depth ≤ D → RS base env vals G m s → wpAny (model prog w) A (eval e env) (fun y s' => RelV v y ∧ Keeps s s') E s
/-- arguments -/
def RA (prog : Program) (w : World) (base : Heap) (D : Nat) (env : Env) (vals : List (Str × V)) (G : Pins) (es : List Expr) (vs : List V) : Prop :=
  ∀ (pos : Pos) (A : Around) (E : Value → Shared → Prop) (s : Shared) (m : Str → Option Value), A.handled = none → A.depth ≤ D → RS base env vals G m s → wpAny (model prog w) A (spliced (backTo pos (starEach es env))) (fun us s' => Vals vs us ∧ Keeps s s') E s
/-- the def at f hands back v for vs -/
def RF (prog : Program) (w : World) (base : Heap) (D : Nat) (f : Addr) (vs : List V) (G : Pins) (v : V) : Prop :=
  ∀ (A : Around) (s : Shared) (us : List Value), A.handled = none → A.depth ≤ D → (∀ b o, base.get? b = some o → s.heap.get? b = some o) → Vals vs us → (∀ q ∈ G, s.heap.get? q.1 = some q.2) →
    codeAny (model prog w) A (.call (.ref f) ⟨us, []⟩) (fun r s' => ∃ u, r = .ok (.ret u) ∧ RelV v u ∧ Keeps s s') s
/-- what is known of a frame -/
structure RC (scope : Scope) (env : Env) : Prop where
  kind : env.scope.kind = .function
  sc : env.scope = scope
  glob : env.globals = mainGlobals
  blt : env.builtins = builtinsNs
theorem keeps_trans {s s1 s2 : Shared} (a : Keeps s s1) (b : Keeps s1 s2) : Keeps s s2 := by
  obtain ⟨h1, k1, rfl, e1⟩ := a
  obtain ⟨h2, k2, rfl, e2⟩ := b
  exact ⟨h2, k2, rfl, fun b o q => e2 b o (e1 b o q)⟩
theorem keeps_tok (s : Shared) (k : Nat) : Keeps s { s with toks := k } := ⟨s.heap, k, rfl, fun _ _ e => e⟩
theorem keeps_self (s : Shared) : Keeps s s := keeps_tok s s.toks
theorem keeps_get {s s' : Shared} (a : Keeps s s') : ∀ b o, s.heap.get? b = some o → s'.heap.get? b = some o := by
  obtain ⟨h1, k1, rfl, e1⟩ := a
  exact e1
/-- the kind of a value, with what is pinned -/
inductive KV (G : Pins) : V → String → Prop
  | non : KV G .non "NoneType"
  | bl {b} : KV G (.bl b) "bool"
  | int {i} : KV G (.int i) "int"
  | str {z} : KV G (.str z) "str"
  | lst {a o} : (a, o) ∈ G → o.cls = .type "list" → KV G (.ref a) "list"
  | tup {a o} : (a, o) ∈ G → o.cls = .type "tuple" → KV G (.ref a) "tuple"
  | dct {a o} : (a, o) ∈ G → o.cls = .type "dict" → KV G (.ref a) "dict"
section
variable {prog : Program} {w : World} {K : PySem.W.Frag} {mg : Str → Option Value} {base : Heap} {D : Nat} {env : Env} {scope : Scope} {vals : List (Str × V)} {G : Pins} {e e1 e2 e3 : Expr} {es : List Expr} {v : V} {vs : List V} {p p1 p2 pos : Pos}
theorem RS.on {m : Str → Option Value} {s s' : Shared} (r : RS base env vals G m s) (k : Keeps s s') : RS base env vals G m s' :=
  ⟨fun b o q => keeps_get k b o (r.hb b o q), r.hn.keeps (keeps_get k), r.hm, fun q hq => keeps_get k _ _ (r.hG q hq)⟩
theorem re_name {x : Str} (c : RC scope env) (hl : scope.names.lookup x = some .local) (hv : (x, v) ∈ vals) (hd : (x == ("__debug__" : Str)) = false := by decide) : RE prog w base D env vals G (.Name x p) v := by
  intro A E s m hA hD r
  obtain ⟨u, hu, q⟩ := r.hm _ hv
  exact wpAny_Name (wpAny_loadName_local c.kind (show env.scope.names.lookup x = some .local by rw [c.sc]; exact hl) r.hn hu ⟨q, keeps_self _⟩) hd
theorem re_int {i : Int} {j : Nat} : RE prog w base D env vals G (.Constant (.int i) j p) (.int i) := fun A E s m hA hD r => wpAny_Constant_int ⟨⟨_, rfl⟩, keeps_tok _ _⟩
theorem re_str {z : Str} {j : Nat} : RE prog w base D env vals G (.Constant (.str z) j p) (.str z) := fun A E s m hA hD r => Calls.Constant_str ⟨⟨_, rfl⟩, keeps_tok _ _⟩
theorem ld_g {x : Str} {u : Value} {A : Around} {E : Value → Shared → Prop} {s : Shared} {m : Str → Option Value} {Q : Value → Shared → Prop} (M : Mod K mg base) (c : RC scope env) (r : RS base env vals G m s) (hg : scope.names.lookup x = some .globalImplicit) (hm : mg x = some u) (q : Q u s) (hd : (x == ("__debug__" : Str)) = false := by decide) :
    wpAny (model prog w) A (eval (.Name x p) env) Q E s :=
  Calls.Name_function_global c.kind (show env.scope.names.lookup x = some .globalImplicit by rw [c.sc]; exact hg) (Calls.loadGlobal_global (by rw [c.glob]; exact M.glob.keeps r.hb) hm q) hd
theorem ld_b {x : Str} {u : Value} {A : Around} {E : Value → Shared → Prop} {s : Shared} {m : Str → Option Value} {Q : Value → Shared → Prop} (M : Mod K mg base) (c : RC scope env) (r : RS base env vals G m s) (hg : scope.names.lookup x = some .globalImplicit) (hm : mg x = none) (hv : bootBuiltins x = some u) (q : Q u s)
    (hn0 : x ≠ "__name__" := by decide) (hd : (x == ("__debug__" : Str)) = false := by decide) : wpAny (model prog w) A (eval (.Name x p) env) Q E s := by
  obtain ⟨mb, h1, h2⟩ := M.blt
  exact Calls.Name_function_global c.kind (show env.scope.names.lookup x = some .globalImplicit by rw [c.sc]; exact hg) (Calls.loadGlobal_builtin (by rw [c.glob]; exact M.glob.keeps r.hb) hm (by rw [c.blt]; exact h1.keeps r.hb) ((h2 x hn0).trans hv) q) hd
theorem re_glob {x : Str} {u : Value} (M : Mod K mg base) (c : RC scope env) (hg : scope.names.lookup x = some .globalImplicit) (hm : mg x = some u) (q : RelV v u) (hd : (x == ("__debug__" : Str)) = false := by decide) : RE prog w base D env vals G (.Name x p) v :=
  fun A E s m hA hD r => ld_g M c r hg hm ⟨q, keeps_self _⟩ hd
theorem re_blt {x : Str} {u : Value} (M : Mod K mg base) (c : RC scope env) (hg : scope.names.lookup x = some .globalImplicit) (hm : mg x = none) (hv : bootBuiltins x = some u) (q : RelV v u) (hn0 : x ≠ "__name__" := by decide) (hd : (x == ("__debug__" : Str)) = false := by decide) : RE prog w base D env vals G (.Name x p) v :=
  fun A E s m hA hD r => ld_b M c r hg hm hv ⟨q, keeps_self _⟩ hn0 hd
/-- a - b of whole numbers -/
theorem re_sub {i j : Int} (h1 : RE prog w base D env vals G e1 (.int i)) (h2 : RE prog w base D env vals G e2 (.int j)) : RE prog w base D env vals G (.BinOp e1 .Sub e2 p) (.int (i - j)) := by
  intro A E s m hA hD r
  refine wpAny_BinOp (thn (h1 A E s m hA hD r) fun y s1 ⟨r1, k1⟩ => ?_)
  refine thn (h2 A E s1 m hA hD (r.on k1)) fun z s2 ⟨r2, k2⟩ => ?_
  obtain ⟨t, rfl⟩ := r1
  obtain ⟨t', rfl⟩ := r2
  exact sub_int ⟨⟨_, rfl⟩, keeps_trans (keeps_trans k1 k2) (keeps_tok _ _)⟩
/-- a and b, of truth values; a false one ends it -/
theorem re_andF {rest : List Expr} (h1 : RE prog w base D env vals G e1 (.bl false)) : RE prog w base D env vals G (.BoolOp .And (e1 :: e2 :: rest) p) (.bl false) := by
  intro A E s m hA hD r
  refine BoolOp_and (thn (h1 A E s m hA hD r) fun y s1 ⟨r1, k1⟩ => ?_)
  cases r1
  exact wpAny_truthy_bool ⟨rfl, k1⟩
theorem re_andT {b : Bool} (h1 : RE prog w base D env vals G e1 (.bl true)) (h2 : RE prog w base D env vals G e2 (.bl b)) : RE prog w base D env vals G (.BoolOp .And [e1, e2] p) (.bl b) := by
  intro A E s m hA hD r
  refine BoolOp_and (thn (h1 A E s m hA hD r) fun y s1 ⟨r1, k1⟩ => ?_)
  cases r1
  refine wpAny_truthy_bool ?_
  refine BoolOp_one (thn (h2 A E s1 m hA hD (r.on k1)) fun z s2 ⟨r2, k2⟩ => ⟨r2, keeps_trans k1 k2⟩)
theorem re_not {b : Bool} (h1 : RE prog w base D env vals G e1 (.bl b)) : RE prog w base D env vals G (.UnaryOp .Not e1 p) (.bl (!b)) := by
  intro A E s m hA hD r
  refine UnaryOp_ (thn (h1 A E s m hA hD r) fun y s1 ⟨r1, k1⟩ => ?_)
  cases r1
  exact not_of (wpAny_truthy_bool ⟨rfl, k1⟩)
/-- i <= x <= j -/
theorem re_chain {i x j : Int} (h1 : RE prog w base D env vals G e1 (.int i)) (h2 : RE prog w base D env vals G e2 (.int x)) (h3 : RE prog w base D env vals G e3 (.int j)) (hm : lastMarks [.LtE, .LtE] [e2, e3] = false := by with_unfolding_all rfl) :
    RE prog w base D env vals G (.Compare e1 [.LtE, .LtE] [e2, e3] p) (.bl (decide (i ≤ x ∧ x ≤ j))) := by
  intro A E s m hA hD r
  refine Compare_chain (thn (h1 A E s m hA hD r) fun y s1 ⟨r1, k1⟩ => chain_link (thn (h2 A E s1 m hA hD (r.on k1)) fun z s2 ⟨r2, k2⟩ => ?_)) hm
  obtain ⟨t, rfl⟩ := r1
  obtain ⟨t', rfl⟩ := r2
  refine PyProof.Rows.le_int (wpAny_truthy_bool ?_)
  by_cases hi : i ≤ x
  · rw [decide_eq_true hi]
    refine ite_tt (chain_last (thn (h3 A E s2 m hA hD ((r.on k1).on k2)) fun z3 s3 ⟨r3, k3⟩ => ?_))
    obtain ⟨t3, rfl⟩ := r3
    refine PyProof.Rows.le_int ⟨?_, keeps_trans (keeps_trans k1 k2) k3⟩
    show Value.bool _ = Value.bool _
    simp [hi]
  · rw [decide_eq_false hi]
    refine ite_ff ⟨?_, keeps_trans k1 k2⟩
    show Value.bool _ = Value.bool _
    simp [hi]
theorem ra_nil : RA prog w base D env vals G [] [] := fun _ _ _ _ _ _ _ _ => Calls.spliced_nil ⟨.nil, keeps_self _⟩
theorem ra_cons (h1 : RE prog w base D env vals G e v) (h2 : RA prog w base D env vals G es vs) (hs : starEach (e :: es) env = (false, eval e env) :: starEach es env := by rfl) : RA prog w base D env vals G (e :: es) (v :: vs) := by
  intro pos A E s m hA hD r
  rw [hs]
  show wpAny _ _ (spliced ((false, eval e env) :: backTo pos (starEach es env))) _ _ s
  refine Calls.spliced_cons (thn (h1 A E s m hA hD r) fun u s1 ⟨r1, k1⟩ => ?_)
  exact thn (h2 pos A E s1 m hA hD (r.on k1)) fun us s2 ⟨r2, k2⟩ => ⟨.cons r1 r2, keeps_trans k1 k2⟩
/-- f(e, ..), f an own def -/
theorem re_call {x : Str} {f : Addr} (M : Mod K mg base) (c : RC scope env) (hg : scope.names.lookup x = some .globalImplicit) (hm : mg x = some (.ref f)) (hk : PySem.W.keepIn K (.ref f) = true) (F : RF prog w base D f vs G v)
    (ha : RA prog w base D env vals G (e :: es) vs) (hdb : (x == ("__debug__" : Str)) = false := by decide) (he : starEach (e :: es) env = (false, eval e env) :: starEach es env := by rfl) (hpl : (backTo pos (starEach es env)).any (·.1) = false := by rfl) :
    RE prog w base D env vals G (.Call (.Name x p) (e :: es) [] pos) v := by
  intro A E s m hA hD r
  refine wpAny_Call_Name_kw (ld_g M c r hg hm ?_ hdb)
  refine PySem.W.callWith_K (h₀ := base) M.kin hk (thn (ha pos A E s m hA hD r) fun us s1 ⟨r1, k1⟩ => ⟨M.kin.keeps (r.on k1).hb, ?_⟩) he hpl
  refine wpAny_call (codeAny_mono (F A s1 us hA hD (r.on k1).hb r1 (r.on k1).hG) fun r' s' hq => ?_)
  obtain ⟨u, rfl, ru, k⟩ := hq
  exact ⟨ru, keeps_trans k1 k⟩
theorem kv_call {A : Around} {E : Value → Shared → Prop} {s : Shared} {u : Value} {Q : Value → Shared → Prop} {t T : String} {b : Bool} (X : K.In s.heap) (kv : KV G v t) (hG : ∀ q ∈ G, s.heap.get? q.1 = some q.2) (ru : RelV v u) (h : PySem.W.kitOne K (.type t) (.type T) = some b) (q : ∀ tk, Q (.bool b) { s with toks := tk }) :
    wpAny (model prog w) A (call (.builtin "isinstance") [u, .type T]) Q E s := by
  cases kv with
  | non => cases ru; exact PySem.W.kia_one PySem.W.kitx_none X True.intro h (fun z => nomatch z) q
  | bl => cases ru; exact PySem.W.kia_one PySem.W.kitx_bool X True.intro h (fun z => nomatch z) q
  | int => obtain ⟨t, rfl⟩ := ru; exact PySem.W.kia_one PySem.W.kitx_int X True.intro h (fun z => nomatch z) q
  | str => obtain ⟨t, rfl⟩ := ru; exact PySem.W.kia_one PySem.W.kitx_str X True.intro h (fun z => nomatch z) q
  | lst hm hc => cases (show u = Value.ref _ from ru); exact PySem.W.kia_one PySem.W.kitx_list X ⟨_, hG _ hm, hc⟩ h (fun z => nomatch z) q
  | tup hm hc => cases (show u = Value.ref _ from ru); exact PySem.W.kia_one PySem.W.kitx_tuple X ⟨_, hG _ hm, hc⟩ h (fun z => nomatch z) q
  | dct hm hc => cases (show u = Value.ref _ from ru); exact PySem.W.kia_one PySem.W.kitx_dict X ⟨_, hG _ hm, hc⟩ h (fun z => nomatch z) q
/-- isinstance(e, T) -/
theorem re_isi {T : String} {t : String} {b : Bool} (M : Mod K mg base) (c : RC scope env) (hg : scope.names.lookup ("isinstance" : Str) = some NameKind.globalImplicit) (hm : mg "isinstance" = none)
    (h1 : RE prog w base D env vals G e1 v) (h2 : RE prog w base D env vals G e2 (.ty T)) (kv : KV G v t) (h : PySem.W.kitOne K (.type t) (.type T) = some b)
    (he1 : starEach [e1, e2] env = (false, eval e1 env) :: starEach [e2] env := by rfl) (he2 : starEach [e2] env = (false, eval e2 env) :: starEach [] env := by rfl) (hpl : (backTo pos (starEach [e2] env)).any (·.1) = false := by rfl) :
    RE prog w base D env vals G (.Call (.Name "isinstance" p) [e1, e2] [] pos) (.bl b) := by
  intro A E s m hA hD r
  refine wpAny_Call_Name_kw (ld_b M c r hg hm (by rfl) ?_)
  refine PyProof.Rows.callWith_builtin1 ?_ he1 hpl
  refine thn (ra_cons h1 (ra_cons h2 ra_nil he2) he1 pos A E s m hA hD r) fun us s1 ⟨r1, k1⟩ => ?_
  cases r1 with
  | cons ra rr =>
    cases rr with
    | cons rb rn =>
      cases rn
      cases (show _ = Value.type T from rb)
      exact kv_call (M.kin.keeps (r.on k1).hb) kv (r.on k1).hG ra h fun tk => ⟨rfl, keeps_trans k1 (keeps_tok _ _)⟩
/-- a def whose suite is one return -/
theorem rf_of {f : Addr} {fd : FuncData} {x : Str} {params : Arguments} {rp : Pos} {N ps : List Str} (F : FunD K x x params [.Return (some e) rp] scope [] [] f fd) (M : Mod K mg base) (S : FnScope N ps scope) (hloc : ∀ y ∈ ps, scope.names.lookup y = some .local) (hnd : ps.Nodup)
    (hb : ∀ (kV doc pm : Value) (an : Option Addr) (cdv ct : Value) (us : List Value), us.length = ps.length → bindArgs (PySem.W.fnOf x x params [.Return (some e) rp] scope .none kV doc pm an cdv ct) ⟨us, []⟩ = pure (ps.zip us))
    (hl : vs.length = ps.length) (hD : D < recursionLimit) (body : ∀ env : Env, RC scope env → RE prog w base (D + 1) env (ps.zip vs) G e v) : RF prog w base D f vs G v := by
  intro A s us hA hAD hs r hG
  obtain ⟨oc, od, dV, kV, doc, pm, an, cdv, ct, osl, rfl, lk, hcd, hdv, _⟩ := F.ex
  have KX : K.In s.heap := M.kin.keeps hs
  have lim : s.heap.NoLimit := M.nolimit.keeps hs
  have hul : us.length = ps.length := by rw [← r.length]; exact hl
  have hdn : dV = .none := by
    rcases hdv with ⟨_, h⟩ | ⟨h, _⟩
    · exact h
    · exact absurd rfl h
  subst hdn
  refine codeAny_call_function (Nat.lt_of_le_of_lt hAD hD) (KX _ _ lk) rfl S.co S.gen rfl (PySem.W.codeRec_of KX hcd) ?_
  rw [hb _ _ _ _ _ _ us hul]
  refine wpAny_pure ?_
  refine wpAny_newFunctionEnv_cells S.kind (fun ⟨n, v⟩ hy => .inl (hloc n (List.of_mem_zip hy).1)) fun env he s1 x => ?_
  have hk : ∀ b o, s.heap.get? b = some o → s1.heap.get? b = some o := x.toInCall.keep
  refine ⟨lim.keeps hk, codeAny_func ?_⟩
  have hks : Keeps s s1 := by
    obtain ⟨h1, t1, e1⟩ := x.toInCall.same
    exact ⟨h1, t1, e1, by rw [e1] at hk; exact hk⟩
  have hR : RS base env (ps.zip vs) G _ s1 := ⟨fun b o q => hk b o (hs b o q), x.toInCall.ns, fun q hq => ?_, fun q hq => hk _ _ (hG q hq)⟩
  · have cR : RC scope env := by subst he; exact ⟨S.kind, rfl, rfl, rfl⟩
    refine wpAny_execs_cons (wpAny_Return_some (thn (body env cR (A.deeper env) _ s1 _ hA (Nat.succ_le_succ hAD) hR) fun y s' ⟨ry, ky⟩ => ?_))
    exact ⟨y, rfl, ry, keeps_trans hks ky⟩
  · obtain ⟨i, hi, ei⟩ := List.getElem_of_mem hq
    rw [List.getElem_zip] at ei
    subst ei
    have hi1 : i < ps.length := by rw [List.length_zip] at hi; omega
    have hi2 : i < vs.length := by rw [List.length_zip] at hi; omega
    obtain ⟨u, hu, ru⟩ := r.get (List.getElem?_eq_getElem hi2)
    refine ⟨u, bindL_get hnd (List.getElem?_eq_getElem hi1) hu ?_, ru⟩
    subst he
    exact hloc _ (List.getElem_mem hi1)
end
end Wk
set_option Elab.async false
set_option linter.all false
set_option maxRecDepth 100000
set_option maxHeartbeats 4000000
/-! Wk: all(.. for x in xs), xs a list or a tuple of plain values. -/
namespace Wk
open PySem PySem.Spec PyProof.Rows L2
/-- the kind of a plain value -/
inductive KH (K : PySem.W.Frag) (H : Hp) : V → String → Prop
  | non : KH K H .non "NoneType"
  | bl {b} : KH K H (.bl b) "bool"
  | int {i} : KH K H (.int i) "int"
  | str {z} : KH K H (.str z) "str"
  | lst {a xs} : SqL K H a xs → KH K H (.ref a) "list"
  | tup {a xs} : SqT K H a xs → KH K H (.ref a) "tuple"
theorem KV.more {G G' : Pins} {v : V} {t : String} (h : KV G v t) (hs : ∀ q ∈ G, q ∈ G') : KV G' v t := by
  cases h with
  | non => exact .non
  | bl => exact .bl
  | int => exact .int
  | str => exact .str
  | lst h c => exact .lst (hs _ h) c
  | tup h c => exact .tup (hs _ h) c
  | dct h c => exact .dct (hs _ h) c
section
variable {X : Cx} {pins : List (Addr × Obj)} {σ : L2.St} {H : Hp} {s : Shared}
theorem kv_of {P : Addr} {ps : Array Value} {v : V} {t : String} (I : Inv X pins σ H s) (hP : H P = some (.tbl ps)) (h : KH X.K H v t) : ∃ G : Pins, KV G v t ∧ ∀ q ∈ G, s.heap.get? q.1 = some q.2 ∧ q.1 ≠ P := by
  have nP : ∀ {a : Addr} {o : Obj} {its : Array Value} {n : Nat}, s.heap.get? a = some o → o.data = .seq its n → a ≠ P := fun e d z => by
    rw [z, I.hok P _ hP] at e
    cases e
    cases d
  cases h with
  | non => exact ⟨[], .non, by simp⟩
  | bl => exact ⟨[], .bl, by simp⟩
  | int => exact ⟨[], .int, by simp⟩
  | str => exact ⟨[], .str, by simp⟩
  | @lst a xs e =>
    obtain ⟨its, r, hl, hz⟩ := I.list e
    obtain ⟨o, n, e2, hc, _, hd⟩ := _root_.id hl
    exact ⟨[(a, o)], .lst (List.mem_singleton.mpr rfl) hc, fun q hq => by
      cases List.mem_singleton.mp hq
      exact ⟨e2, nP e2 hd⟩⟩
  | @tup a xs e =>
    obtain ⟨its, r, hl, hz⟩ := I.tuple e
    obtain ⟨o, e2, hc, n, hd⟩ := _root_.id hl
    exact ⟨[(a, o)], .tup (List.mem_singleton.mpr rfl) hc, fun q hq => by
      cases List.mem_singleton.mp hq
      exact ⟨e2, nP e2 hd⟩⟩
theorem kvs_of {P : Addr} {ps : Array Value} (I : Inv X pins σ H s) (hP : H P = some (.tbl ps)) : ∀ (xs : List V), (∀ v ∈ xs, ∃ t, KH X.K H v t) → ∃ G : Pins, (∀ v ∈ xs, ∃ t, KV G v t) ∧ ∀ q ∈ G, s.heap.get? q.1 = some q.2 ∧ q.1 ≠ P
  | [], _ => ⟨[], by simp, by simp⟩
  | v :: xs, h => by
    obtain ⟨t, ht⟩ := h v (List.mem_cons_self ..)
    obtain ⟨G1, k1, g1⟩ := kv_of I hP ht
    obtain ⟨G2, k2, g2⟩ := kvs_of I hP xs fun u hu => h u (List.mem_cons_of_mem _ hu)
    refine ⟨G1 ++ G2, fun u hu => ?_, fun q hq => ?_⟩
    · rcases List.mem_cons.mp hu with rfl | hu
      · exact ⟨t, k1.more fun q hq => List.mem_append_left _ hq⟩
      · obtain ⟨t2, h2⟩ := k2 u hu
        exact ⟨t2, h2.more fun q hq => List.mem_append_right _ hq⟩
    · rcases List.mem_append.mp hq with z | z
      · exact g1 q z
      · exact g2 q z
/-- the element's test -/
def trV (pb : V → Bool) (l : List V) (j : Nat) : Bool := match l[j]? with
  | some b => pb b
  | none => false
theorem trV_some {pb : V → Bool} {l : List V} {j : Nat} {b : V} (h : l[j]? = some b) : trV pb l j = pb b := by
  unfold trV
  rw [h]
theorem all_trV (l : List V) (pb : V → Bool) : (List.range l.length).all (trV pb l) = l.all pb := by
  rw [Bool.eq_iff_iff, List.all_eq_true, List.all_eq_true]
  constructor
  · intro h b hb
    obtain ⟨j, hj, e⟩ := List.getElem_of_mem hb
    have q := h j (List.mem_range.mpr hj)
    rw [trV_some (List.getElem?_eq_getElem hj), e] at q
    exact q
  · intro h j hj
    have hj' := List.mem_range.mp hj
    rw [trV_some (List.getElem?_eq_getElem hj')]
    exact h _ (List.getElem_mem hj')
/-- the generator g over xs, ready to be walked, in the state s5; H1: what was held before -/
def ReadyV (X : Cx) (pins : List (Addr × Obj)) (σ : L2.St) (H1 : Hp) (P : Addr) (xs : List V) (pb : V → Bool) (g : Addr) (s5 : Shared) : Prop :=
  ∃ (fp wr : List Addr) (G : Array GenState → Array GenState → Prop) (F : Nat → Value → Prop) (St : Nat → Shared → Prop),
    WalksS X.prog X.w X.A.in1 g fp wr G xs.length F St ∧ St 0 s5 ∧
    TruthOf X.prog X.w X.A.in1 F (trV pb xs) ∧
    ∀ s', Moved wr G s5 s' → ∃ H2, GxR.Tabbed P H1 H2 ∧ Inv X pins σ H2 s'
/-- what is walked: an iterator object o over the items at y -/
structure Itr (X : Cx) (y : Addr) (its : Array Value) (h0 : Heap) (o : Obj) (St0 : Addr → Nat → Heap → Prop) : Prop where
  w : ∀ (I : Addr) (A' : Around), y ≠ I → A'.handled = none → Walks X.prog X.w A' I [I, y] [I] its.size (fun i v => its[i]? = some v) (St0 I)
  st : St0 h0.objs.size 0 (h0.push o)
  lt : y < h0.objs.size
theorem gen_val {c P : Addr} {elt : Expr} {x : Str} {gpos : Pos} {scope : Scope} {pb : V → Bool} {k : Nat} {Q' : Value → Shared → Prop} {y : Addr} {its : List Value} {xs : List V} {o : Obj} {St0 : Addr → Nat → Heap → Prop} {s1 : Shared} {H1 : Hp} {ps : Array Value}
    (hr : Room k X.A) (TB : GxR.TabB X.base X.mg c P) (hcode : X.env.code = .ref c) (S : GxR.GenS X.env scope x)
    (hel : Mod X.K X.mg X.base → ∀ (cenv : Env) (G : Pins) (v : V) (t : String), RC scope cenv → KV G v t → RE X.prog X.w X.base (X.A.depth + 1) cenv [(x, v)] G elt (.bl (pb v)))
    (I1 : Inv X pins σ H1 s1) (hP : H1 P = some (.tbl ps)) (ht : TriplesOk ps.toList) (hxs : ∀ v ∈ xs, ∃ t, KH X.K H1 v t) (rv : Vals xs its) (hyP : y ≠ P) (IT : Itr X y its.toArray s1.heap o St0)
    (hQ : ∀ g s5, ReadyV X pins σ H1 P xs pb g s5 → Q' (.ref g) s5) :
    (s1.heap.push o).NoLimit ∧ wpAny (model X.prog X.w) X.A (genexprCode X.env gpos (X.env.qual ++ "<genexpr>") scope) (fun code s₃ => wpAny (model X.prog X.w) X.A (builtinsFor X.env.globals X.env.builtins) (fun bi s₄ =>
        ∃ Ia fp wr n₀ Pf St₀ pz F, Value.ref s1.heap.objs.size = .ref Ia ∧ (∀ A' : Around, A'.handled = none → Walks X.prog X.w A' Ia fp wr n₀ Pf St₀) ∧ St₀ 0 s₄.heap ∧ (∀ b ∈ fp, b < s₄.heap.objs.size) ∧ s₄.heap.NoLimit ∧ cStatics ∉ wr ∧
          (∀ href : Heap, (∀ b o, s₄.heap.get? b = some o → href.get? b = some o) →
            QuietGenD X.prog X.w (genEnv scope (cloFrom X.env.cells scope.names []) s₄.heap.objs.size code bi X.env) x [] elt (List.range s₄.heap.objs.size) wr Pf pz F href (X.A.depth + 1) (X.A.units + 8)) ∧
          (∀ a h₅ tk gs, gs.bare = true → s₄.heap.objs.size < a → h₅.objs.size = a + 1 → (∀ b o, s₄.heap.get? b = some o → h₅.get? b = some o) →
            WalksS X.prog X.w X.A.in4 a (a :: s₄.heap.objs.size :: List.range s₄.heap.objs.size) (s₄.heap.objs.size :: wr) (GenOnlyQ s₄.gens.size) (passing pz n₀ 0).length
              (fun j y => ∃ i, (passing pz n₀ 0)[j]? = some i ∧ F i y) (GenAt X.prog X.w X.A.in4 a s₄.gens.size s₄.heap.objs.size (List.range s₄.heap.objs.size) wr pz n₀ F) →
            GenAt X.prog X.w X.A.in4 a s₄.gens.size s₄.heap.objs.size (List.range s₄.heap.objs.size) wr pz n₀ F 0 { s₄ with gens := s₄.gens.push gs, toks := tk, heap := h₅ } →
            Q' (.ref a) { s₄ with gens := s₄.gens.push gs, toks := tk, heap := h₅ })) X.xe s₃) X.xe { s1 with heap := s1.heap.push o } := by
  obtain ⟨G, hkv, hG⟩ := kvs_of I1 hP xs hxs
  have hlen : its.length = xs.length := by rw [← rv.length]
  have hat : ∀ (i : Nat) (u : Value), its.toArray[i]? = some u → ∃ v, xs[i]? = some v ∧ RelV v u := fun i u hv => by
    have hv2 : its[i]? = some u := by simpa using hv
    have hi2 : i < its.length := (List.getElem?_eq_some_iff.mp hv2).1
    obtain ⟨a, ha⟩ : ∃ a, xs[i]? = some a := ⟨xs[i]'(by omega), List.getElem?_eq_getElem _⟩
    obtain ⟨u2, hu, ru⟩ := rv.get ha
    rw [hv2] at hu
    cases hu
    exact ⟨a, ha, ru⟩
  have hPs : s1.heap.get? P = some { cls := .none, data := .fields ps } := I1.hok P _ hP
  have hPlt : P < s1.heap.objs.size := Heap.lt_size hPs
  have hP2 : (s1.heap.push o).get? P = some { cls := .none, data := .fields ps } := Heap.get?_push_of_some _ hPs
  have cd : PySem.W.CodeHd (s1.heap.push o) c P := TB.code.keeps fun b u e => Heap.get?_push_of_some _ (I1.bk b u e)
  have lim2 : (s1.heap.push o).NoLimit := I1.nolimit.push o
  have hylt := IT.lt
  have cont : ∀ (code : Value) (h3 : Heap) (tk : Nat) (ps' : Array Value), Heap.ExtBut P (s1.heap.push o) h3 → (s1.heap.push o).objs.size ≤ h3.objs.size → h3.get? P = some { cls := .none, data := .fields ps' } → (∃ more, ps' = ps ++ more) → TriplesOk ps'.toList →
      wpAny (model X.prog X.w) X.A (builtinsFor X.env.globals X.env.builtins) (fun bi s₄ =>
        ∃ Ia fp wr n₀ Pf St₀ pz F, Value.ref s1.heap.objs.size = .ref Ia ∧ (∀ A' : Around, A'.handled = none → Walks X.prog X.w A' Ia fp wr n₀ Pf St₀) ∧ St₀ 0 s₄.heap ∧ (∀ b ∈ fp, b < s₄.heap.objs.size) ∧ s₄.heap.NoLimit ∧ cStatics ∉ wr ∧
          (∀ href : Heap, (∀ b o, s₄.heap.get? b = some o → href.get? b = some o) →
            QuietGenD X.prog X.w (genEnv scope (cloFrom X.env.cells scope.names []) s₄.heap.objs.size code bi X.env) x [] elt (List.range s₄.heap.objs.size) wr Pf pz F href (X.A.depth + 1) (X.A.units + 8)) ∧
          (∀ a h₅ tk gs, gs.bare = true → s₄.heap.objs.size < a → h₅.objs.size = a + 1 → (∀ b o, s₄.heap.get? b = some o → h₅.get? b = some o) →
            WalksS X.prog X.w X.A.in4 a (a :: s₄.heap.objs.size :: List.range s₄.heap.objs.size) (s₄.heap.objs.size :: wr) (GenOnlyQ s₄.gens.size) (passing pz n₀ 0).length
              (fun j y => ∃ i, (passing pz n₀ 0)[j]? = some i ∧ F i y) (GenAt X.prog X.w X.A.in4 a s₄.gens.size s₄.heap.objs.size (List.range s₄.heap.objs.size) wr pz n₀ F) →
            GenAt X.prog X.w X.A.in4 a s₄.gens.size s₄.heap.objs.size (List.range s₄.heap.objs.size) wr pz n₀ F 0 { s₄ with gens := s₄.gens.push gs, toks := tk, heap := h₅ } →
            Q' (.ref a) { s₄ with gens := s₄.gens.push gs, toks := tk, heap := h₅ })) X.xe { s1 with heap := h3, toks := tk } := by
    intro code h3 tk ps' hx hsz hP3 hmore ht3
    obtain ⟨bm, ob, e1, e2, e3, e4, e5, e6, e7, e8⟩ := TB.bm
    have hcP : cStatics ≠ P := fun e => by
      obtain ⟨_, hns, _⟩ := I1.nolimit
      obtain ⟨o', es, ep, ho, hd, _⟩ := hns
      rw [e, hPs] at ho
      cases ho
      cases hd
    have hcl : cStatics < s1.heap.objs.size := let ⟨_, hns, _⟩ := I1.nolimit; hns.lt
    have sz2 : (s1.heap.push o).objs.size = s1.heap.objs.size + 1 := Heap.size_push ..
    have keep3 : ∀ b u, b ≠ P → s1.heap.get? b = some u → h3.get? b = some u := fun b u hb e => hx b u hb (Heap.get?_push_of_some _ e)
    have hbP : ∀ b u, X.base.get? b = some u → b ≠ P := fun b u e z => by
      have e2 := (I1.bs b u e).2
      rw [z, hP] at e2
      cases e2
    refine wpAny_builtinsFor (m := X.mg) (by rw [I1.ok.glob]; exact ((I1.mod.glob.keeps I1.bk).push o).extBut hx TB.gP) e1 e2 (keep3 _ _ e4 (I1.bk _ _ e5)) e6 e7 e8 ?_
    refine ⟨s1.heap.objs.size, [s1.heap.objs.size, y], [s1.heap.objs.size], its.toArray.size, (fun i v => its.toArray[i]? = some v), St0 s1.heap.objs.size, (fun _ => true),
      (fun i z => ∃ v, xs[i]? = some v ∧ z = .bool (pb v)), rfl, (fun A' hA => IT.w _ A' (Nat.ne_of_lt hylt) hA), ?_, ?_, lim2.extBut hx hcP, ?_, ?_, ?_⟩
    · refine (IT.w _ X.A (Nat.ne_of_lt hylt) hr.hd).frame _ _ _ IT.st fun b hb u e => hx b u (fun z => ?_) e
      rcases List.mem_cons.mp hb with z2 | z2
      · exact Nat.ne_of_lt hPlt (z.symm.trans z2)
      · exact hyP ((List.mem_singleton.mp z2).symm.trans z)
    · intro b hb
      rcases List.mem_cons.mp hb with z | z
      · rw [z]
        show s1.heap.objs.size < h3.objs.size
        omega
      · rw [List.mem_singleton.mp z]
        have e9 : s1.heap.objs.size ≤ h3.objs.size := by omega
        exact Nat.lt_of_lt_of_le hylt e9
    · intro z
      rcases List.mem_cons.mp z with z | z
      · exact Nat.ne_of_lt hcl z
      · cases z
    · intro href hhref
      refine ⟨fun A' E' i v s₂ m₂ hA hD hU hPv hn hm hk => ?_, fun A' E' i u s₂ m₂ hA hD hU hPv hp hn hm hk => ?_⟩
      · simp only [List.forIn_nil]
        exact wpAny_pure ⟨rfl, keeps_self _⟩
      · obtain ⟨v, hv, ru⟩ := hat i u hPv
        obtain ⟨t, kv⟩ := hkv v (List.mem_of_getElem? hv)
        have kept : ∀ b q, b ≠ P → s1.heap.get? b = some q → s₂.heap.get? b = some q := fun b q hb e => by
          have hl := Heap.lt_size e
          refine hk b (List.mem_range.mpr (Nat.lt_of_lt_of_le hl (show s1.heap.objs.size ≤ h3.objs.size by omega))) (fun z => ?_) q (hhref b q (keep3 b q hb e))
          rw [List.mem_singleton.mp z] at hl
          exact Nat.lt_irrefl _ hl
        have hR : RS X.base (genEnv scope (cloFrom X.env.cells scope.names []) h3.objs.size code builtinsNs X.env) [(x, v)] G m₂ s₂ :=
          ⟨fun b q e => kept b q (hbP b q e) (I1.bk b q e), hn, fun q hq => by cases List.mem_singleton.mp hq; exact ⟨u, hm, ru⟩, fun q hq => kept q.1 q.2 (hG q hq).2 (hG q hq).1⟩
        refine wpAny_mono (hel I1.mod (genEnv scope (cloFrom X.env.cells scope.names []) h3.objs.size code builtinsNs X.env) G v t ⟨S.kind, rfl, I1.ok.glob, rfl⟩ kv A' E' s₂ m₂ hA hD hR) (fun z s3 r => ⟨⟨v, hv, ?_⟩, r.2⟩) fun _ _ e => e
        exact r.1
    · intro g h5 tk5 gs hgb hag hsz5 hk5 W5 hgat
      simp only [GxR.passing_true, List.length_range] at W5
      have hn5 : its.toArray.size = xs.length := by rw [List.size_toArray, hlen]
      rw [hn5] at W5 hgat
      refine hQ g _ ⟨_, _, _, _, _, W5.in4_1, hgat, ?_, fun s' hm => ?_⟩
      · intro j z sj Qj Ej hy hQj
        obtain ⟨i, hij, v, hv, rfl⟩ := hy
        obtain ⟨hj, ej⟩ := List.getElem?_eq_some_iff.mp hij
        rw [List.getElem_range] at ej
        subst ej
        rw [trV_some hv] at hQj
        exact wpAny_truthy_bool hQj
      · obtain ⟨more, em⟩ := hmore
        have nwr : ∀ b u, s1.heap.get? b = some u → b ∉ h3.objs.size :: [s1.heap.objs.size] := fun b u e hb => by
          have hl := Heap.lt_size e
          rcases List.mem_cons.mp hb with z | z
          · rw [z] at hl
            have h9 : (h3.objs.size : Nat) < s1.heap.objs.size := hl
            omega
          · rcases List.mem_cons.mp z with z | z
            · rw [z] at hl
              exact Nat.lt_irrefl _ hl
            · cases z
        have J := GxR.inv_tab (more := more) (h' := s'.heap) (g' := s'.gens) (d' := s'.drawn) (t' := s'.toks) I1 hP (fun b u hb e => hm.heap b u (nwr b u e) (hk5 b u (keep3 b u hb e)))
          (by rw [← em]; exact hm.heap P _ (nwr P _ hPs) (hk5 P _ hP3)) (AllBare.movedS (I1.bare.push hgb) hm)
        rw [GxR.sh_eta s1 s' hm.os] at J
        refine ⟨upd H1 P (.tbl (ps ++ more)), ⟨⟨ps ++ more, upd_same, by rw [← em]; exact ht3⟩, fun b hb => upd_ne hb⟩, J⟩
  refine ⟨lim2, ?_⟩
  cases hf : codeAmong gpos ps.toList with
  | none =>
    refine wpAny_genexprCodeX hcode (cd.code hP2 ht) (cd.tab hP2) hf fun c' h' tk hx hge hlt hco' _ htab' _ => ?_
    obtain ⟨o1, vs, f1, tf, fl, tg, inF, tx, tt, op, _, _, _, _, _, _, _, _, _, htr, _⟩ := hco'
    exact cont _ h' tk _ hx (Nat.le_trans hge (Nat.le_of_lt hlt)) htab'.2 ⟨_, rfl⟩ htr
  | some cv =>
    refine wpAny_genexprCode_hit hcode (cd.code hP2 ht) hf ?_
    exact cont cv (s1.heap.push o) s1.toks ps (Heap.ExtBut.refl _ _) (Nat.le_refl _) hP2 ⟨#[], by simp⟩ ht
/-- all(test for x in e), e a list or a tuple of plain values; behind it the def's table may have grown -/
def tAllV (K : PySem.W.Frag) (P : Addr) (pb : V → Bool) (te : TE) : TE := fun σ H Q => te σ H fun v H1 => ∃ (y : Addr) (xs : List V), v = .ref y ∧ (SqL K H1 y xs ∨ SqT K H1 y xs) ∧ (∀ v ∈ xs, ∃ t, KH K H1 v t) ∧ GxR.TabG H1 P ∧ ∀ H2, GxR.Tabbed P H1 H2 → Q (.bl (xs.all pb)) H2
theorem pe_allV {c P : Addr} {elt iter : Expr} {x : Str} {px p pos gpos : Pos} {scope : Scope} {pb : V → Bool} {te : TE} {k : Nat}
    (hr : Room k X.A) (hg : Gl X "all") (hm : X.mg "all" = none) (TB : GxR.TabB X.base X.mg c P) (hcode : X.env.code = .ref c) (S : GxR.GenS X.env scope x) (hi : PE X iter te)
    (hel : Mod X.K X.mg X.base → ∀ (cenv : Env) (G : Pins) (v : V) (t : String), RC scope cenv → KV G v t → RE X.prog X.w X.base (X.A.depth + 1) cenv [(x, v)] G elt (.bl (pb v)))
    (hs : ∀ v, genFold iter X.env v = pure v)
    (he : starEach [.GeneratorExp elt [⟨.Name x px, iter, [], 0⟩] scope gpos] X.env = (false, eval (.GeneratorExp elt [⟨.Name x px, iter, [], 0⟩] scope gpos) X.env) :: starEach [] X.env := by rfl) :
    PE X (.Call (.Name "all" p) [.GeneratorExp elt [⟨.Name x px, iter, [], 0⟩] scope gpos] [] pos) (tAllV X.K P pb te) := by
  refine ⟨fun pins s σ H Q I h => ?_⟩
  refine wpAny_Call_Name_kw (ld_blt I hg hm (by rfl) ?_)
  refine PyProof.Rows.callWith_builtin1 ?_ he (by rfl)
  rw [he]
  show wpAny _ _ (spliced ((false, eval (.GeneratorExp elt [⟨.Name x px, iter, [], 0⟩] scope gpos) X.env) :: backTo pos (starEach [] X.env))) _ _ s
  refine Calls.spliced_cons ?_
  refine wpAny_GeneratorExp_walksQD hr.hd S.co (closure_ok S.free) S.cell S.dot S.loc S.kind (by have := hr.dp; omega) ?_ hs
  refine thn (hi.run pins s σ H _ I h) fun xv s1 ⟨v, H1, I1, r1, q1⟩ => ?_
  obtain ⟨y, xs, rfl, hy, hxs, ⟨ps, hP, ht⟩, hR⟩ := q1
  obtain rfl : xv = Value.ref y := r1
  have fin : ∀ g s5, ReadyV X pins σ H1 P xs pb g s5 → (fun u s₁ => wpAny (model X.prog X.w) X.A (spliced (backTo pos (starEach [] X.env))) (fun vs s₁ => wpAny (model X.prog X.w) X.A (call (.builtin "all") (u :: vs)) (EP X pins σ Q) X.xe s₁) X.xe s₁) (.ref g) s5 := fun g s5 hG => by
    obtain ⟨fp, wr, G, F, St, W, hst, htr, hI⟩ := hG
    refine Calls.spliced_nil ?_
    refine call_all_walkS (W.self 0 _ _ _ hst ⟨g, fp, wr, G, _, F, St, _, rfl, W, hst, htr, fun s' hmv => ?_⟩)
    obtain ⟨H2, hT, J⟩ := hI s' hmv
    refine ⟨.bl _, H2, J, rfl, ?_⟩
    rw [all_trV]
    exact hR H2 hT
  rcases hy with hy | hy
  · obtain ⟨its, rv, hl, hz⟩ := I1.list hy
    have hIL := hl.isList
    have hyP : y ≠ P := fun z => by
      obtain ⟨_, e, hc1, _, hd1⟩ := _root_.id hIL
      rw [z, I1.hok P _ hP] at e
      cases e
      cases hd1
    refine wpAny_pyIter_list hIL ?_
    refine gen_val (Q' := fun u s₁ => wpAny (model X.prog X.w) X.A (spliced (backTo pos (starEach [] X.env))) (fun vs s₁ => wpAny (model X.prog X.w) X.A (call (.builtin "all") (u :: vs)) (EP X pins σ Q) X.xe s₁) X.xe s₁) (St0 := fun I i h => h.IsListIter I y i ∧ h.IsList y its.toArray) hr TB hcode S hel I1 hP ht hxs rv hyP ⟨fun I A' hne hA => Walks.list hA I y hne _, ?_, ?_⟩ fin
    · exact ⟨⟨_, Heap.get?_push_size _ rfl, rfl, rfl⟩, by
        obtain ⟨ob, e, r⟩ := _root_.id hIL
        exact ⟨ob, Heap.get?_push_of_some _ e, r⟩⟩
    · obtain ⟨_, e, _⟩ := _root_.id hIL
      exact Heap.lt_size e
  · obtain ⟨its, rv, hl, hz⟩ := I1.tuple hy
    have hIT : s1.heap.IsTuple y its.toArray := hl
    have hyP : y ≠ P := fun z => by
      obtain ⟨_, e, hc1, hd1⟩ := _root_.id hl
      obtain ⟨_, hd1⟩ := hd1
      rw [z, I1.hok P _ hP] at e
      cases e
      cases hd1
    refine wpAny_pyIter_tuple hIT ?_
    refine gen_val (Q' := fun u s₁ => wpAny (model X.prog X.w) X.A (spliced (backTo pos (starEach [] X.env))) (fun vs s₁ => wpAny (model X.prog X.w) X.A (call (.builtin "all") (u :: vs)) (EP X pins σ Q) X.xe s₁) X.xe s₁) (St0 := fun I i h => h.IsTupleIter I y i ∧ h.IsTuple y its.toArray) hr TB hcode S hel I1 hP ht hxs rv hyP ⟨fun I A' hne hA => Walks.tuple hA I y hne _, ?_, ?_⟩ fin
    · exact ⟨⟨_, Heap.get?_push_size _ rfl, rfl, rfl⟩, hIT.at fun o e => Heap.get?_push_of_some _ e⟩
    · obtain ⟨_, e, _⟩ := _root_.id hl
      exact Heap.lt_size e
end
end Wk
set_option Elab.async false
set_option linter.all false
set_option maxRecDepth 100000
set_option maxHeartbeats 4000000
/-! Wk: calls without arguments, by keywords alone; own classes: methods, properties, making. -/
namespace Wk
open PySem PySem.Spec PyProof.Rows L2
/-- a def that is called with n positional values and these keywords -/
structure CalK (P : Program) (w : World) (K : PySem.W.Frag) (mg : Str → Option Value) (base : Heap) (k : Nat) (x : Str) (sp : Sp) (n : Nat) (ks : List Str) (gV : List V → List V → List V) : Prop where
  ex : ∃ (f : Addr) (fd : FuncData) (ps : List Str) (g : List Value → List Value → List Value), FnOk P w K mg base C8.CX0 k f fd ps sp ∧ mg x = some (.ref f) ∧ PySem.W.keepIn K (.ref f) = true ∧ KBn K fd ps n ks g gV
/-- a property of the class at C -/
structure Prp (P : Program) (w : World) (K : PySem.W.Frag) (mg : Str → Option Value) (base : Heap) (k : Nat) (C : Addr) (m : Str) (sp : Sp) : Prop where
  ex : ∃ (p f : Addr) (fd : FuncData) (ps : List Str), Cls K C ∧ PropOf K C m p f ∧ FnOk P w K mg base C8.CX0 k f fd ps sp ∧ Binds K fd ps []
def tCallK (m : Nat) (sp : Sp) (gV : List V → List V → List V) (E : XK) (tk : TA) : TE := fun σ H Q => tk σ H fun zs H2 => zs.length = m ∧ sp (gV [] zs) H2 Q E
section
variable {X : Cx} {j k : Nat} {x m : Str} {sp : Sp} {dvs : List V} {ks : List Str} {gV : List V → List V → List V} {p pos apos : Pos} {kws : List Keyword} {tk : TA} {C : Addr} {o : Expr} {ta : TE}
theorem pe_c0 (c : C8.Cal X.prog X.w X.K X.mg X.base k x sp dvs) (hr : Room j X.A) (hk : k ≤ j) (hg : Gl X x) (hdb : (x == ("__debug__" : Str)) = false := by decide) : PE X (.Call (.Name x p) [] [] pos) (tCall sp dvs C8.E0 tNil) := by
  obtain ⟨f, fd, ps, ds, F, hm, kp, b, d⟩ := c.ex
  exact pe_call0 F (hr.mono hk) hg hm kp b d C8.pass0 hdb
theorem pe_mk0 (c : C8.Mak X.prog X.w X.K X.mg X.base k x C sp dvs) (hr : Room j X.A) (hk : k + 1 ≤ j) (hg : Gl X x) (hdb : (x == ("__debug__" : Str)) = false := by decide) : PE X (.Call (.Name x p) [] [] pos) (tMake C sp dvs C8.E0 tNil) := by
  obtain ⟨f, fd, ps, ds, M, F, hm, b, d⟩ := c.ex
  exact pe_make0 M F (hr.mono hk) hg hm b d C8.pass0 hdb
/-- f(k = v, ..) -/
theorem pe_ck (c : CalK X.prog X.w X.K X.mg X.base k x sp 0 ks gV) (hr : Room j X.A) (hk : k ≤ j) (hg : Gl X x) (hkw : PK X kws tk) (hall : (backToKw pos (keywordEach kws X.env)).all (·.1.isSome) = true := by rfl) (hks : (backToKw pos (keywordEach kws X.env)).filterMap (·.1) = ks := by rfl)
    (hdb : (x == ("__debug__" : Str)) = false := by decide) (hpl : ((backTo pos (starEach [] X.env)).any (·.1) || (backToKw pos (keywordEach kws X.env)).any (·.1.isNone)) = false := by rfl) :
    PE X (.Call (.Name x p) [] kws pos) (tCallK ks.length sp gV C8.E0 tk) := by
  obtain ⟨f, fd, ps, g, F, hm, kp, b⟩ := c.ex
  refine ⟨fun pins s σ H Q I h => ?_⟩
  refine wpAny_Call_Name_kw (ld_glob I hg hm ?_ hdb)
  refine PySem.W.callWith_KW0 (h₀ := X.base) I.ok.mod.kin kp hall ?_ hpl
  refine thn (hkw.run pos pins s σ H _ I h) fun ws s2 ⟨zs, H2, I2, rz, l2, q2⟩ => ⟨I2.kIn, ?_⟩
  rw [hks]
  exact run_fnN F (hr.mono hk) b C8.pass0 I2 .nil rz rfl l2 q2
/-- f(e, .., k = v, ..) -/
theorem pe_ckp {n : Nat} {e : Expr} {es : List Expr} {t : TA} (c : CalK X.prog X.w X.K X.mg X.base k x sp n ks gV) (hr : Room j X.A) (hk : k ≤ j) (hg : Gl X x) (ha : PA X (e :: es) t) (hkw : PK X kws tk) (hall : (backToKw pos (keywordEach kws X.env)).all (·.1.isSome) = true := by rfl) (hks : (backToKw pos (keywordEach kws X.env)).filterMap (·.1) = ks := by rfl)
    (hdb : (x == ("__debug__" : Str)) = false := by decide) (he : starEach (e :: es) X.env = (false, eval e X.env) :: starEach es X.env := by rfl) (hpl : ((backTo pos (starEach (e :: es) X.env)).any (·.1) || (backToKw pos (keywordEach kws X.env)).any (·.1.isNone)) = false := by rfl) :
    PE X (.Call (.Name x p) (e :: es) kws pos) (tCallN n ks.length sp gV C8.E0 t tk) := by
  obtain ⟨f, fd, ps, g, F, hm, kp, b⟩ := c.ex
  exact pe_callN F (hr.mono hk) hg hm kp b C8.pass0 ha hkw hall hks hdb he hpl
/-- e.m, a property -/
theorem pe_pr (c : Prp X.prog X.w X.K X.mg X.base k C m sp) (hr : Room j X.A) (hk : k + 1 ≤ j) (he : PE X o ta) (hab : attributeBase o m X.env (eval o X.env) = eval o X.env := by rfl) : PE X (.Attribute o m pos) (tProp C sp [] C8.E0 ta) := by
  obtain ⟨q, f, fd, ps, hc, hp, F, b⟩ := c.ex
  exact pe_prop he hc hp F (hr.mono hk) b .nil C8.pass0 hab
end
/-! ### steps -/
def KMeth (C : Addr) (m : Str) (sp : Sp) (dvs : List V) (E : XK) (t : TA) (σ : L2.St) (Q : VK) (x : V) (H1 : Hp) : Prop := ∃ a dx fs, x = .ref a ∧ H1 a = some (.ins C dx fs) ∧ fs.lookup m = none ∧ t σ H1 fun vs H2 => sp (x :: (vs ++ dvs)) H2 Q E
def KMake (C : Addr) (sp : Sp) (dvs : List V) (E : XK) (Q : VK) (vs : List V) (H1 : Hp) : Prop := ∀ x dx, H1 x = none → H1 dx = none → dx ≠ x → sp (.ref x :: (vs ++ dvs)) (upd (upd H1 dx (.own x)) x (.ins C dx [])) (fun v H2 => v = .non ∧ Q (.ref x) H2) E
def KProp (C : Addr) (sp : Sp) (E : XK) (Q : VK) (x : V) (H1 : Hp) : Prop := ∃ a dx fs, x = .ref a ∧ H1 a = some (.ins C dx fs) ∧ sp [.ref a] H1 Q E
section
variable {σ : L2.St} {H : Hp} {Q : VK} {C : Addr} {m : Str} {sp : Sp} {dvs : List V} {E : XK} {t : TA} {ta te : TE} {a dx : Addr} {fs : List (Str × V)} {n : Nat} {gV : List V → List V → List V} {D : Ends} {f : Str} {K : PySem.W.Frag} {v : V}
theorem w_meth (h : ta σ H fun x H1 => KMeth C m sp dvs E t σ Q x H1) : tMeth C m sp dvs E ta t σ H Q := h
theorem w_kmeth (ho : H a = some (.ins C dx fs)) (l : fs.lookup m = none) (h : t σ H fun vs H2 => sp (.ref a :: (vs ++ dvs)) H2 Q E) : KMeth C m sp dvs E t σ Q (.ref a) H := ⟨a, dx, fs, rfl, ho, l, h⟩
theorem w_make (h : t σ H fun vs H1 => KMake C sp dvs E Q vs H1) : tMake C sp dvs E t σ H Q := h
theorem w_prop (h : ta σ H fun x H1 => KProp C sp E Q x H1) : tProp C sp [] E ta σ H Q := h
theorem w_kprop (ho : H a = some (.ins C dx fs)) (h : sp [.ref a] H Q E) : KProp C sp E Q (.ref a) H := ⟨a, dx, fs, rfl, ho, h⟩
theorem w_callN {n m : Nat} {tk : TA} (h : t σ H fun vs H1 => tk σ H1 fun zs H2 => vs.length = n ∧ zs.length = m ∧ sp (gV vs zs) H2 Q E) : tCallN n m sp gV E t tk σ H Q := h
theorem w_callK (h : t σ H fun zs H2 => zs.length = n ∧ sp (gV [] zs) H2 Q E) : tCallK n sp gV E t σ H Q := h
end
section
variable {K : PySem.W.Frag}
theorem w_gtup {n : Nat} {t : TGs} {σ : L2.St} {a : Addr} {xs : List V} {H : Hp} {R : L2.St → Hp → Prop} (h : SqT K H a xs) (hn : xs.length = n) (q : t xs σ H R) : gTup K n t (.ref a) σ H R := ⟨a, xs, rfl, h, hn, q⟩
theorem w_gcons {t : TG} {u : TGs} {v : V} {r : List V} {σ : L2.St} {H : Hp} {R : L2.St → Hp → Prop} (q : t v σ H fun σ' H' => u r σ' H' R) : gCons t u (v :: r) σ H R := ⟨v, r, rfl, q⟩
theorem w_gnil {σ : L2.St} {H : Hp} {R : L2.St → Hp → Prop} (q : R σ H) : gNil [] σ H R := ⟨rfl, q⟩
theorem w_gname {n : Nat} {v : V} {σ : L2.St} {H : Hp} {R : L2.St → Hp → Prop} (q : R (σ.set n (some v)) H) : gName n v σ H R := q
def KStar (K : PySem.W.Frag) (t : TA) (σ : L2.St) (Q : List V → Hp → Prop) (x : V) (H1 : Hp) : Prop := ∃ p xs, x = V.ref p ∧ (SqT K H1 p xs ∨ SqL K H1 p xs) ∧ t σ H1 fun ys H2 => Q (xs ++ ys) H2
theorem w_star {te : TE} {t : TA} {σ : L2.St} {H : Hp} {Q : List V → Hp → Prop} (h : te σ H fun x H1 => KStar K t σ Q x H1) : StX.tStar K te t σ H Q := h
theorem w_kstarL {t : TA} {σ : L2.St} {H : Hp} {Q : List V → Hp → Prop} {p : Addr} {xs : List V} (e : SqL K H p xs) (h : t σ H fun ys H2 => Q (xs ++ ys) H2) : KStar K t σ Q (.ref p) H := ⟨p, xs, rfl, .inr e, h⟩
theorem w_kstarT {t : TA} {σ : L2.St} {H : Hp} {Q : List V → Hp → Prop} {p : Addr} {xs : List V} (e : SqT K H p xs) (h : t σ H fun ys H2 => Q (xs ++ ys) H2) : KStar K t σ Q (.ref p) H := ⟨p, xs, rfl, .inl e, h⟩
end
section
variable {K : PySem.W.Frag} {H : Hp} {Q : VK} {x : V}
theorem c_isiT2 {t A B : String} {a b r : Bool} {tp : Addr} (ht : H tp = some (.tup [.ty A, .ty B])) (ty : TyX K H x (.type t)) (ha : kitB t A = some a) (hb : kitB t B = some b) (hr : (a || b) = r) (q : Q (.bl r) H) : CB (rIsiT K) [x, .ref tp] H Q := by
  refine ⟨x, tp, _, .type t, [.type A, .type B], r, rfl, ht, .cons (.ty A) (.cons (.ty B) .nil), ty, ?_, q⟩
  subst hr
  have e1 := kit_ty (K := K) ha
  have e2 := kit_ty (K := K) hb
  cases a <;> cases b <;> simp [PySem.W.kitAny, e1, e2]
theorem w_cat {l b : Addr} {xs zs : List V} (h1 : H l = some (.lst xs)) (h2 : H b = some (.lst zs)) (hz : xs.length + zs.length ≤ sizeLine) (q : ∀ p H2, New H H2 p (.lst (xs ++ zs)) → Q (.ref p) H2) : rCat (.ref l) (.ref b) H Q :=
  ⟨l, b, xs, zs, rfl, rfl, h1, h2, hz, fun p hp => q p _ (New.of hp)⟩
theorem w_rep {l : Addr} {k : Int} {xs : List V} (h1 : H l = some (.lst xs)) (h2 : -(2 ^ 63) ≤ k) (h3 : k < 2 ^ 63) (hz : xs.length * k.toNat ≤ sizeLine) (q : ∀ p H2, New H H2 p (.lst (List.replicate k.toNat xs).flatten) → Q (.ref p) H2) : rRep (.ref l) (.int k) H Q :=
  ⟨l, k, xs, rfl, rfl, h1, h2, h3, hz, fun p hp => q p _ (New.of hp)⟩
def KSFld (K : PySem.W.Frag) (f : Str) (D : Ends) (σ : L2.St) (y x : V) (H2 : Hp) : Prop := ∃ a C dx fs, x = .ref a ∧ H2 a = some (.ins C dx fs) ∧ Cls K C ∧ NoAttr K C f ∧ fs.length < 1000 ∧ D.nx σ (upd H2 a (.ins C dx (putF f y fs)))
theorem w_sfld {ta tv : TE} {f : Str} {D : Ends} {σ : L2.St} (h : tv σ H fun y H1 => ta σ H1 fun x H2 => KSFld K f D σ y x H2) : sFld K ta tv f D σ H := h
theorem w_ksfld {f : Str} {D : Ends} {σ : L2.St} {y : V} {a C dx : Addr} {fs : List (Str × V)} (ho : H a = some (.ins C dx fs)) (c : Cls K C) (n : NoAttr K C f) (hl : fs.length < 1000) (q : ∀ H2, Chg H H2 a (.ins C dx (putF f y fs)) → D.nx σ H2) : KSFld K f D σ y (.ref a) H :=
  ⟨a, C, dx, fs, rfl, ho, c, n, hl, q _ Chg.of⟩
end
section
variable {K : PySem.W.Frag} {H H1 : Hp} {a tP : Addr} {xs : List V}
theorem tab_ne {o : HO} (e : H a = some o) (t : GxR.TabG H tP) (ho : ∀ ps, o ≠ .tbl ps) : a ∉ [tP] := fun z => by
  obtain ⟨ps, h, _⟩ := t
  rw [List.mem_singleton.mp z, h] at e
  exact ho ps (Option.some.inj e).symm
theorem tabT (h : SqT K H a xs) (t : GxR.TabG H tP) (u : Upt [tP] H H1) : SqT K H1 a xs := by
  rcases h with (h | ⟨q, h⟩) | h
  · exact .inl (.inl (u a _ (tab_ne h t fun _ z => by cases z) h))
  · exact .inl (.inr ⟨q, u a _ (tab_ne h t fun _ z => by cases z) h⟩)
  · exact .inr h
theorem tabL (h : SqL K H a xs) (t : GxR.TabG H tP) (u : Upt [tP] H H1) : SqL K H1 a xs := by
  rcases h with (h | ⟨q, h⟩) | h
  · exact .inl (.inl (u a _ (tab_ne h t fun _ z => by cases z) h))
  · exact .inl (.inr ⟨q, u a _ (tab_ne h t fun _ z => by cases z) h⟩)
  · exact .inr h
theorem tabO {o : HO} (e : H a = some o) (ho : ∀ ps, o ≠ .tbl ps) (t : GxR.TabG H tP) (u : Upt [tP] H H1) : H1 a = some o := u a o (tab_ne e t ho) e
theorem tabG {S : List Addr} (t : GxR.TabG H tP) (n : tP ∉ S) (u : Upt S H H1) : GxR.TabG H1 tP := let ⟨ps, e, h⟩ := t; ⟨ps, u tP _ n e, h⟩
end
theorem w_inT {K : PySem.W.Frag} {H : Hp} {Q : VK} {x : V} {p : Addr} {xs : List V} {b : Bool} (h : H p = some (.tup xs)) (fx : flatV x = true) (fs : xs.all flatV = true) (e : inV x xs = b) (q : Q (.bl b) H) : rIn K false x (.ref p) H Q := ⟨p, xs, rfl, .inr (SqT.of h), fx, fs, by subst e; exact q⟩
theorem offT {K : PySem.W.Frag} {H H1 : Hp} {a b : Addr} {xs ys : List V} (h : SqT K H a xs) (e : H b = some (.lst ys)) (u : Upt [b] H H1) : SqT K H1 a xs := by
  rcases h with (h | ⟨q, h⟩) | h
  · exact .inl (.inl (u.at1 (fun z => by rw [z, e] at h; cases h) h))
  · exact .inl (.inr ⟨q, u.at1 (fun z => by rw [z, e] at h; cases h) h⟩)
  · exact .inr h
theorem w_slT {K : PySem.W.Frag} {σ : L2.St} {H : Hp} {Q : VK} {a : Addr} {xs : List V} {n : Nat} {i : Int} (hv : σ[n]? = some (some (.ref a))) (h : SqT K H a xs) (hn : ¬ (HT.sIx xs.length 0 (some i) = 0 ∧ HT.sIx xs.length xs.length none = xs.length)) (q : ∀ p H2, New H H2 p (.tup (cutV xs (some i) none)) → Q (.ref p) H2) :
    tSl (rSlT K) (tVar n) (tPart (tC (.int i))) tNoPart σ H Q := ⟨_, hv, i, rfl, a, xs, rfl, h, hn, fun p hp => q p _ (New.of hp)⟩
theorem Upt.chgNew {H H1 H2 : Hp} {p : Addr} {o : HO} (U : Upt [] H H1) (z : H p = none) (g : Chg H1 H2 p o) : Upt [] H H2 := fun b ob nb e => g.keep.at1 (fun q => by rw [q, z] at e; cases e) (U b ob nb e)
/-! ### methods as they stand -/
def DefM (K : PySem.W.Frag) (x qual : Str) (st : Stmt) (dvs : List V) (f : Addr) (fd : FuncData) : Prop := FunD K x qual (defArgs st) (defBody st) (defScope st) dvs [] f fd
def MetAt (K : PySem.W.Frag) (C : Addr) (x qual : Str) (st : Stmt) : Prop := ∃ f fd, DefM K x qual st [] f fd ∧ Cls K C ∧ Meth K C x f
def PrpAt (K : PySem.W.Frag) (C : Addr) (x qual : Str) (st : Stmt) : Prop := ∃ p f fd, DefM K x qual st [] f fd ∧ Cls K C ∧ PropOf K C x p f
section
variable {P : Program} {w : World} {K : PySem.W.Frag} {mg : Str → Option Value} {base : Heap}
theorem mkM {C : Addr} {x qual : Str} {st : Stmt} {N ps : List Str} {k : Nat} {sp : Sp} (d : MetAt K C x qual st) (S : FnScope N ps (defScope st))
    (hb : ∀ (kV doc pm : Value) (an : Option Addr) (cdv ct : Value) (us : List Value), us.length = ps.length → bindArgs (PySem.W.fnOf x qual (defArgs st) (defBody st) (defScope st) .none kV doc pm an cdv ct) ⟨us, []⟩ = pure (ps.zip us))
    (len : ∀ vs H Q E, sp vs H Q E → vs.length = ps.length)
    (body : ∀ (f : Addr) (cdv : Value) (A : Around) (outer : List Env) (s : Shared) (H : Hp) (vs : List V) (Q : VK) (E : XK), Room k (A.deeper (envOfC qual (defScope st) s.heap.objs.size f cdv)) → sp vs H Q E →
      ∃ t, PSs (cxOf C8.CX0 P w K mg base N qual (defScope st) f cdv A outer s H E).nox (defBody st) t ∧ t { nx := fun _ H' => Q .non H', rt := Q } (start N vs) H) : C8.Met P w K mg base (k + 1) C x sp [] := by
  obtain ⟨f, fd, F, hc, hm⟩ := d
  have F : FunD K x qual (defArgs st) (defBody st) (defScope st) [] [] f fd := F
  exact ⟨f, fd, ps, [], hc, hm, F.ok S len (fun cdv A outer s H vs Q E hr hsp => let ⟨t, h, q⟩ := body f cdv A outer s H vs Q E hr hsp; ⟨t, h.nox, q⟩), F.bindsN hb, .nil⟩
theorem mkP {C : Addr} {x qual : Str} {st : Stmt} {N ps : List Str} {k : Nat} {sp : Sp} (d : PrpAt K C x qual st) (S : FnScope N ps (defScope st))
    (hb : ∀ (kV doc pm : Value) (an : Option Addr) (cdv ct : Value) (us : List Value), us.length = ps.length → bindArgs (PySem.W.fnOf x qual (defArgs st) (defBody st) (defScope st) .none kV doc pm an cdv ct) ⟨us, []⟩ = pure (ps.zip us))
    (len : ∀ vs H Q E, sp vs H Q E → vs.length = ps.length)
    (body : ∀ (f : Addr) (cdv : Value) (A : Around) (outer : List Env) (s : Shared) (H : Hp) (vs : List V) (Q : VK) (E : XK), Room k (A.deeper (envOfC qual (defScope st) s.heap.objs.size f cdv)) → sp vs H Q E →
      ∃ t, PSs (cxOf C8.CX0 P w K mg base N qual (defScope st) f cdv A outer s H E).nox (defBody st) t ∧ t { nx := fun _ H' => Q .non H', rt := Q } (start N vs) H) : Prp P w K mg base (k + 1) C x sp := by
  obtain ⟨p, f, fd, F, hc, hm⟩ := d
  have F : FunD K x qual (defArgs st) (defBody st) (defScope st) [] [] f fd := F
  exact ⟨p, f, fd, ps, hc, hm, F.ok S len (fun cdv A outer s H vs Q E hr hsp => let ⟨t, h, q⟩ := body f cdv A outer s H vs Q E hr hsp; ⟨t, h.nox, q⟩), F.bindsN hb⟩
/-- called by keywords alone -/
theorem mkK {x : Str} {st : Stmt} {N ps ks : List Str} {k : Nat} {sp : Sp} {f : Addr} {fd : FuncData} (F : FunD K x x (defArgs st) (defBody st) (defScope st) [] [] f fd) (hm : mg x = some (.ref f)) (S : FnScope N ps (defScope st)) (g : {α : Type} → List α → List α)
    (hrel : ∀ {zs : List V} {ws : List Value}, Vals zs ws → Vals (g zs) (g ws))
    (hb : ∀ (kV doc pm : Value) (an : Option Addr) (cdv ct : Value) (ws : List Value), ws.length = ks.length → bindArgs (PySem.W.fnOf x x (defArgs st) (defBody st) (defScope st) .none kV doc pm an cdv ct) ⟨[], ks.zip ws⟩ = pure (ps.zip (g ws)))
    (len : ∀ vs H Q E, sp vs H Q E → vs.length = ps.length)
    (body : ∀ (f : Addr) (cdv : Value) (A : Around) (outer : List Env) (s : Shared) (H : Hp) (vs : List V) (Q : VK) (E : XK), Room k (A.deeper (envOfC x (defScope st) s.heap.objs.size f cdv)) → sp vs H Q E →
      ∃ t, PSs (cxOf C8.CX0 P w K mg base N x (defScope st) f cdv A outer s H E).nox (defBody st) t ∧ t { nx := fun _ H' => Q .non H', rt := Q } (start N vs) H) : CalK P w K mg base (k + 1) x sp 0 ks (fun _ zs => g zs) := by
  refine ⟨f, fd, ps, fun _ ws => g ws, F.ok S len (fun cdv A outer s H vs Q E hr hsp => let ⟨t, h, q⟩ := body f cdv A outer s H vs Q E hr hsp; ⟨t, h.nox, q⟩), hm, F.kp, fun s us ws _ l1 l2 => ?_, fun _ r => hrel r⟩
  cases us with
  | nil =>
    obtain ⟨oc, od, dV, kV, doc, pm, an, cdv, ct, osl, rfl, lk, hcd, hD, hK⟩ := F.ex
    rcases hD with ⟨_, rfl⟩ | ⟨e, _⟩
    · exact .of_eq (hb kV doc pm an cdv ct ws l2)
    · exact absurd rfl e
  | cons _ _ => cases l1
/-- a def with keyword-only parameters, under its name -/
def DefKw (K : PySem.W.Frag) (mg : Str → Option Value) (x : Str) (st : Stmt) (kwd : List (Str × V)) : Prop := ∃ (f : Addr) (fd : FuncData), FunD K x x (defArgs st) (defBody st) (defScope st) [] kwd f fd ∧ mg x = some (.ref f)
/-- called by positional values and all keyword-only ones -/
theorem mkKp {x : Str} {st : Stmt} {N ps ks : List Str} {kwd : List (Str × V)} {k n : Nat} {sp : Sp} (d : DefKw K mg x st kwd) (S : FnScope N ps (defScope st))
    (hb : ∀ (kV doc pm : Value) (an : Option Addr) (cdv ct : Value) (us ws : List Value), us.length = n → ws.length = ks.length → bindArgs (PySem.W.fnOf x x (defArgs st) (defBody st) (defScope st) .none kV doc pm an cdv ct) ⟨us, ks.zip ws⟩ = pure (ps.zip (us ++ ws)))
    (len : ∀ vs H Q E, sp vs H Q E → vs.length = ps.length)
    (body : ∀ (f : Addr) (cdv : Value) (A : Around) (outer : List Env) (s : Shared) (H : Hp) (vs : List V) (Q : VK) (E : XK), Room k (A.deeper (envOfC x (defScope st) s.heap.objs.size f cdv)) → sp vs H Q E →
      ∃ t, PSs (cxOf C8.CX0 P w K mg base N x (defScope st) f cdv A outer s H E).nox (defBody st) t ∧ t { nx := fun _ H' => Q .non H', rt := Q } (start N vs) H) : CalK P w K mg base (k + 1) x sp n ks (fun vs zs => vs ++ zs) := by
  obtain ⟨f, fd, F, hm⟩ := d
  refine ⟨f, fd, ps, fun us ws => us ++ ws, F.ok S len (fun cdv A outer s H vs Q E hr hsp => let ⟨t, h, q⟩ := body f cdv A outer s H vs Q E hr hsp; ⟨t, h.nox, q⟩), hm, F.kp, fun s us ws _ l1 l2 => ?_, fun r1 r2 => r1.append r2⟩
  obtain ⟨oc, od, dV, kV, doc, pm, an, cdv, ct, osl, rfl, lk, hcd, hD, hK⟩ := F.ex
  rcases hD with ⟨_, rfl⟩ | ⟨e, _⟩
  · exact .of_eq (hb kV doc pm an cdv ct us ws l1 l2)
  · exact absurd rfl e
/-- __init__ with defaults -/
theorem mkI {C f : Addr} {fd : FuncData} {x qual : Str} {st : Stmt} {N ps : List Str} {k : Nat} {sp : Sp} {dvs dvs' : List V} (F : DefM K "__init__" qual st dvs f fd) (M : Mk K C f) (hm : mg x = some (.ref C)) (S : FnScope N ps (defScope st))
    (hb : ∃ ds, Vals dvs' ds ∧ Binds K fd ps ds) (len : ∀ vs H Q E, sp vs H Q E → vs.length = ps.length)
    (body : ∀ (f : Addr) (cdv : Value) (A : Around) (outer : List Env) (s : Shared) (H : Hp) (vs : List V) (Q : VK) (E : XK), Room k (A.deeper (envOfC qual (defScope st) s.heap.objs.size f cdv)) → sp vs H Q E →
      ∃ t, PSs (cxOf C8.CX0 P w K mg base N qual (defScope st) f cdv A outer s H E).nox (defBody st) t ∧ t { nx := fun _ H' => Q .non H', rt := Q } (start N vs) H) : C8.Mak P w K mg base (k + 1) x C sp dvs' := by
  obtain ⟨ds, r, b⟩ := hb
  have F : FunD K "__init__" qual (defArgs st) (defBody st) (defScope st) dvs [] f fd := F
  exact ⟨f, fd, ps, ds, M, F.ok S len (fun cdv A outer s H vs Q E hr hsp => let ⟨t, h, q⟩ := body f cdv A outer s H vs Q E hr hsp; ⟨t, h.nox, q⟩), hm, b, r⟩
end
end Wk
set_option Elab.async false
set_option linter.all false
set_option maxRecDepth 100000
set_option maxHeartbeats 4000000
/-! Wk: a ledger of the heap's cells, and steps that keep it. -/
namespace Wk
open PySem PySem.Spec PyProof.Rows L2
/-- an address, and what is known of the object that stands there -/
abbrev Cell := Addr × (HO → Prop)
/-- the cells of L stand in H, each at an address of its own -/
structure Hd (H : Hp) (L : List Cell) : Prop where
  nd : (L.map Prod.fst).Nodup
  at_ : ∀ c ∈ L, ∃ o, H c.1 = some o ∧ c.2 o
def lstC (a : Addr) (xs : List V) : Cell := (a, fun o => o = .lst xs)
def tupC (a : Addr) (xs : List V) : Cell := (a, fun o => o = .tup xs)
def frzC (a : Addr) (xs : List V) : Cell := (a, fun o => ∃ q, o = .frz q (.lst xs))
def dctC (a : Addr) (kvs : List (Key × V)) : Cell := (a, fun o => o = .dK kvs)
def insC (a C : Addr) (fs : List (Str × V)) : Cell := (a, fun o => ∃ dx, o = .ins C dx fs)
def tblC (a : Addr) : Cell := (a, fun o => ∃ ps, o = .tbl ps ∧ TriplesOk ps.toList)
/-- L is c and M, in some order -/
inductive Pk : List Cell → Cell → List Cell → Prop
  | here {c : Cell} {L : List Cell} : Pk (c :: L) c L
  | there {x c : Cell} {L M : List Cell} : Pk L c M → Pk (x :: L) c (x :: M)
  | app {c : Cell} {Z L M : List Cell} : Pk L c M → Pk (Z ++ L) c (Z ++ M)
/-- L is the block Z and M -/
inductive PkB : List Cell → List Cell → List Cell → Prop
  | here {Z L : List Cell} : PkB (Z ++ L) Z L
  | there {x : Cell} {Z L M : List Cell} : PkB L Z M → PkB (x :: L) Z (x :: M)
  | app {Y Z L M : List Cell} : PkB L Z M → PkB (Y ++ L) Z (Y ++ M)
/-- L is A and R -/
inductive Spl : List Cell → List Cell → List Cell → Prop
  | nil {L : List Cell} : Spl L [] L
  | cons {c : Cell} {L M A R : List Cell} : Pk L c M → Spl M A R → Spl L (c :: A) R
  | blk {L M Z A R : List Cell} : PkB L Z M → Spl M A R → Spl L (Z ++ A) R
/-- A is some of L -/
inductive Sb : List Cell → List Cell → Prop
  | refl {L : List Cell} : Sb L L
  | nil {L : List Cell} : Sb [] L
  | cons {c : Cell} {L M A : List Cell} : Pk L c M → Sb A M → Sb (c :: A) L
  | drop {x : Cell} {A L : List Cell} : Sb A L → Sb A (x :: L)
  | blk {L M Z A : List Cell} : PkB L Z M → Sb A M → Sb (Z ++ A) L
  | left {Z L : List Cell} : Sb Z (Z ++ L)
  | right {A Z L : List Cell} : Sb A L → Sb A (Z ++ L)
theorem Pk.perm {L M : List Cell} {c : Cell} (h : Pk L c M) : L.Perm (c :: M) := by
  induction h with
  | here => exact .refl _
  | there _ ih => exact (List.Perm.cons _ ih).trans (List.Perm.swap _ _ _)
  | app _ ih => exact (List.Perm.append_left _ ih).trans List.perm_middle
theorem PkB.perm {L Z M : List Cell} (h : PkB L Z M) : L.Perm (Z ++ M) := by
  induction h with
  | here => exact .refl _
  | there _ ih => exact (List.Perm.cons _ ih).trans List.perm_middle.symm
  | @app Y Z L M _ ih => exact (List.Perm.append_left _ ih).trans (by rw [← List.append_assoc, ← List.append_assoc]; exact List.Perm.append_right _ List.perm_append_comm)
theorem Spl.perm {L A R : List Cell} (h : Spl L A R) : L.Perm (A ++ R) := by
  induction h with
  | nil => exact .refl _
  | cons p _ ih => exact p.perm.trans (List.Perm.cons _ ih)
  | blk p _ ih => exact p.perm.trans (by rw [List.append_assoc]; exact List.Perm.append_left _ ih)
theorem Hd.perm {H : Hp} {L M : List Cell} (h : Hd H L) (p : L.Perm M) : Hd H M := ⟨(p.map Prod.fst).nodup_iff.mp h.nd, fun c hc => h.at_ c (p.mem_iff.mpr hc)⟩
theorem Hd.tail {H : Hp} {c : Cell} {L : List Cell} (h : Hd H (c :: L)) : Hd H L := ⟨(List.nodup_cons.mp h.nd).2, fun d hd => h.at_ d (List.mem_cons_of_mem _ hd)⟩
theorem Hd.app {H : Hp} {A R : List Cell} (h : Hd H (A ++ R)) : Hd H R := by
  induction A with
  | nil => exact h
  | cons c A ih => exact ih h.tail
theorem Hd.left {H : Hp} {A R : List Cell} (h : Hd H (A ++ R)) : Hd H A := (h.perm List.perm_append_comm).app
theorem Hd.pk {H : Hp} {L M : List Cell} {c : Cell} (h : Hd H L) (p : Pk L c M) : Hd H (c :: M) := h.perm p.perm
theorem Hd.spl {H : Hp} {L A R : List Cell} (h : Hd H L) (p : Spl L A R) : Hd H (A ++ R) := h.perm p.perm
theorem Hd.sb {H : Hp} {L A : List Cell} (h : Hd H L) (s : Sb A L) : Hd H A := by
  have key : ∀ {A L : List Cell}, Sb A L → ∃ R, L.Perm (A ++ R) := by
    intro A L s
    induction s with
    | refl => exact ⟨[], by simp⟩
    | nil => exact ⟨_, List.Perm.refl _⟩
    | cons p _ ih => obtain ⟨R, q⟩ := ih; exact ⟨R, p.perm.trans (List.Perm.cons _ q)⟩
    | @drop x A L _ ih => obtain ⟨R, q⟩ := ih; exact ⟨x :: R, (List.Perm.cons x q).trans List.perm_middle.symm⟩
    | blk p _ ih => obtain ⟨R, q⟩ := ih; exact ⟨R, p.perm.trans (by rw [List.append_assoc]; exact List.Perm.append_left _ q)⟩
    | left => exact ⟨_, List.Perm.refl _⟩
    | @right A Z L _ ih => obtain ⟨R, q⟩ := ih; exact ⟨Z ++ R, (List.Perm.append_left Z q).trans (by rw [← List.append_assoc, ← List.append_assoc]; exact List.Perm.append_right _ List.perm_append_comm)⟩
  obtain ⟨R, q⟩ := key s
  exact (h.perm q).left
theorem Hd.get {H : Hp} {L : List Cell} {c : Cell} (h : Hd H L) (m : c ∈ L) : ∃ o, H c.1 = some o ∧ c.2 o := h.at_ c m
section
variable {H H2 : Hp} {L M : List Cell} {K : PySem.W.Frag} {a b C : Addr} {xs ys : List V} {fs : List (Str × V)} {kvs : List (Key × V)} {o : HO}
theorem Hd.lst (h : Hd H L) (m : lstC a xs ∈ L) : H a = some (.lst xs) := by obtain ⟨o, e, q⟩ := h.at_ _ m; cases (show o = .lst xs from q); exact e
theorem Hd.tup (h : Hd H L) (m : tupC a xs ∈ L) : H a = some (.tup xs) := by obtain ⟨o, e, q⟩ := h.at_ _ m; cases (show o = .tup xs from q); exact e
theorem Hd.dct (h : Hd H L) (m : dctC a kvs ∈ L) : H a = some (.dK kvs) := by obtain ⟨o, e, q⟩ := h.at_ _ m; cases (show o = .dK kvs from q); exact e
theorem Hd.ins (h : Hd H L) (m : insC a C fs ∈ L) : ∃ dx, H a = some (.ins C dx fs) := by obtain ⟨o, e, dx, q⟩ := h.at_ _ m; subst q; exact ⟨dx, e⟩
theorem Hd.sqL (h : Hd H L) (m : lstC a xs ∈ L) : SqL K H a xs := SqL.of (h.lst m)
theorem Hd.sqF (h : Hd H L) (m : frzC a xs ∈ L) : SqL K H a xs := by obtain ⟨o, e, q, z⟩ := h.at_ _ m; subst z; exact .inl (.inr ⟨q, e⟩)
theorem Hd.sqT (h : Hd H L) (m : tupC a xs ∈ L) : SqT K H a xs := SqT.of (h.tup m)
theorem Hd.tbl (h : Hd H L) (m : tblC a ∈ L) : GxR.TabG H a := by obtain ⟨o, e, ps, q, t⟩ := h.at_ _ m; subst q; exact ⟨ps, e, t⟩
theorem Hd.ne {c d : Cell} (h : Hd H (c :: L)) (m : d ∈ L) : d.1 ≠ c.1 := fun e => (List.nodup_cons.mp h.nd).1 (e ▸ List.mem_map_of_mem m)
theorem Hd.new {P : HO → Prop} {p : Addr} (h : Hd H L) (n : New H H2 p o) (q : P o) : Hd H2 ((p, P) :: L) := by
  refine ⟨List.nodup_cons.mpr ⟨fun z => ?_, h.nd⟩, fun c hc => ?_⟩
  · obtain ⟨c, hc, e⟩ := List.mem_map.mp z
    obtain ⟨u, hu, _⟩ := h.at_ c hc
    rw [e, n.no] at hu
    cases hu
  · rcases List.mem_cons.mp hc with rfl | hc
    · exact ⟨o, n.at_, q⟩
    · obtain ⟨u, hu, z⟩ := h.at_ c hc
      exact ⟨u, n.keep.at0 hu, z⟩
theorem Hd.newL {p : Addr} (h : Hd H L) (n : New H H2 p (.lst xs)) : Hd H2 (lstC p xs :: L) := h.new n rfl
theorem Hd.newT {p : Addr} (h : Hd H L) (n : New H H2 p (.tup xs)) : Hd H2 (tupC p xs :: L) := h.new n rfl
theorem Hd.newD {p : Addr} (h : Hd H L) (n : New H H2 p (.dK kvs)) : Hd H2 (dctC p kvs :: L) := h.new n rfl
/-- what a change of the cells S leaves of L -/
theorem Hd.upt {S : List Addr} (h : Hd H L) (u : Upt S H H2) (hs : ∀ c ∈ L, c.1 ∉ S) : Hd H2 L := ⟨h.nd, fun c hc => let ⟨o, e, q⟩ := h.at_ c hc; ⟨o, u _ _ (hs c hc) e, q⟩⟩
theorem Hd.upt0 (h : Hd H L) (u : Upt [] H H2) : Hd H2 L := h.upt u fun _ _ => by simp
theorem Hd.chg {c c' : Cell} (h : Hd H L) (p : Pk L c M) (g : Chg H H2 c.1 o) (e : c'.1 = c.1) (q : c'.2 o) : Hd H2 (c' :: M) := by
  have h1 := h.pk p
  have nd := List.nodup_cons.mp h1.nd
  refine ⟨List.nodup_cons.mpr ⟨by rw [e]; exact nd.1, nd.2⟩, fun d hd => ?_⟩
  rcases List.mem_cons.mp hd with rfl | hd
  · exact ⟨o, by rw [e]; exact g.at_, q⟩
  · obtain ⟨u, hu, z⟩ := h1.at_ d (List.mem_cons_of_mem _ hd)
    exact ⟨u, g.keep.at1 (h1.ne hd) hu, z⟩
theorem Hd.chgL (h : Hd H L) (p : Pk L (lstC a xs) M) (g : Chg H H2 a (.lst ys)) : Hd H2 (lstC a ys :: M) := h.chg (c := lstC a xs) p g rfl rfl
theorem Hd.chgD {kvs' : List (Key × V)} (h : Hd H L) (p : Pk L (dctC a kvs) M) (g : Chg H H2 a (.dK kvs')) : Hd H2 (dctC a kvs' :: M) := h.chg (c := dctC a kvs) p g rfl rfl
theorem Hd.chgI {dx : Addr} {fs' : List (Str × V)} (h : Hd H L) (p : Pk L (insC a C fs) M) (g : Chg H H2 a (.ins C dx fs')) : Hd H2 (insC a C fs' :: M) := h.chg (c := insC a C fs) p g rfl ⟨dx, rfl⟩
/-- cells that change by a contract over addresses -/
theorem Hd.put {S : List Addr} {A B R : List Cell} (h : Hd H (A ++ R)) (u : Upt S H H2) (hs : ∀ a ∈ S, a ∈ A.map Prod.fst) (hB : Hd H2 B) (hk : ∀ c ∈ B, c.1 ∈ A.map Prod.fst ∨ H c.1 = none) : Hd H2 (B ++ R) := by
  have hd : ∀ c ∈ R, c.1 ∉ A.map Prod.fst := fun c hc z => by
    have nd := h.nd
    rw [List.map_append] at nd
    exact (List.nodup_append.mp nd).2.2 _ z _ (List.mem_map_of_mem hc) rfl
  have hR : Hd H2 R := h.app.upt u fun c hc z => hd c hc (hs _ z)
  refine ⟨?_, fun c hc => (List.mem_append.mp hc).elim (hB.at_ c) (hR.at_ c)⟩
  rw [List.map_append]
  refine List.nodup_append.mpr ⟨hB.nd, hR.nd, fun x hx y hy e => ?_⟩
  subst e
  obtain ⟨c, hc, rfl⟩ := List.mem_map.mp hx
  obtain ⟨d, hdm, e⟩ := List.mem_map.mp hy
  rcases hk c hc with z | z
  · exact hd d hdm (e ▸ z)
  · obtain ⟨o, ho, _⟩ := h.app.at_ d hdm
    rw [e, z] at ho
    cases ho
theorem Hd.one {c : Cell} {o : HO} (e : H c.1 = some o) (q : c.2 o) : Hd H [c] := ⟨by simp, fun d hd => by rw [List.mem_singleton.mp hd]; exact ⟨o, e, q⟩⟩
theorem Hd.two {c d : Cell} {o u : HO} (e : H c.1 = some o) (q : c.2 o) (e' : H d.1 = some u) (q' : d.2 u) (n : c.1 ≠ d.1) : Hd H [c, d] := by
  refine ⟨by simp [n], fun x hx => ?_⟩
  rcases List.mem_cons.mp hx with rfl | hx
  · exact ⟨o, e, q⟩
  · rw [List.mem_singleton.mp hx]; exact ⟨u, e', q'⟩
/-- data -/
theorem Dn.lt {n : Nat} {ds : List PyData} (h : Hd H L) (m : lstC a xs ∈ L) (hl : xs.length ≤ 100000) (p : Paired (Dn K [] H n) xs ds) : Dn K [] H (n + 1) (.ref a) (.list ds) := Dn.lst (h.sqL m) (by simp) hl p
theorem Dn.tp {n : Nat} {ds : List PyData} (h : Hd H L) (m : tupC a xs ∈ L) (hl : xs.length ≤ 100000) (p : Paired (Dn K [] H n) xs ds) : Dn K [] H (n + 1) (.ref a) (.tuple ds) := Dn.tup (h.sqT m) (by simp) hl p
end
/-! ### steps -/
section
variable {K : PySem.W.Frag} {σ : L2.St} {H : Hp} {Q : VK} {L M : List Cell} {P : Hp → Prop} {D : Ends} {a b p C : Addr} {xs ys : List V} {i : Int} {n : Nat} {v x y : V} {f : Str} {fs : List (Str × V)} {kvs : List (Key × V)} {E : XK} {sp : Sp} {dvs : List V}
theorem g_lst (hh : Hd H L) (hs : n ≤ sizeLine) (q : ∀ p H2, Hd H2 (lstC p xs :: L) → Q (.ref p) H2) : KNew n H (.lst xs) Q := w_new hs fun p H2 n2 => q p H2 (hh.newL n2)
theorem g_tup (hh : Hd H L) (hs : n ≤ sizeLine) (q : ∀ p H2, Hd H2 (tupC p xs :: L) → Q (.ref p) H2) : KNew n H (.tup xs) Q := w_new hs fun p H2 n2 => q p H2 (hh.newT n2)
theorem g_dict (hh : Hd H L) (q : ∀ p H2, Hd H2 (dctC p [] :: L) → Q (.ref p) H2) : tDNewK σ H Q := w_dnew fun p H2 n2 => q p H2 (hh.newD n2)
theorem g_set (hh : Hd H L) (k : Pk L (lstC p xs) M) (hn : ixN xs.length i = some n) (q : ∀ H2, Hd H2 (lstC p (xs.set n v) :: M) → P H2) : rSetL (.ref p) (.int i) v H P := w_setI ((hh.pk k).lst (List.mem_cons_self ..)) hn fun H2 g => q H2 (hh.chgL k g)
theorem g_append (hh : Hd H L) (k : Pk L (lstC p xs) M) (hz : xs.length < sizeLine) (q : ∀ H2, Hd H2 (lstC p (xs ++ [y]) :: M) → Q .non H2) : KBM K "list" rAppend (tCons (tC y) tNil) σ (.ref p) H Q := by
  have e := (hh.pk k).lst (List.mem_cons_self ..)
  exact w_kbm (ty_list (SqL.of e)) (w_append e hz fun H2 g => q H2 (hh.chgL k g))
theorem g_app (hh : Hd H L) (k : Pk L (lstC p xs) M) (hz : xs.length < sizeLine) (q : ∀ H2, Hd H2 (lstC p (xs ++ [y]) :: M) → Q .non H2) : rAppend (.ref p) [y] H Q := w_append ((hh.pk k).lst (List.mem_cons_self ..)) hz fun H2 g => q H2 (hh.chgL k g)
theorem g_kbm {g : V → List V → Hp → VK → Prop} {t : TA} (hh : Hd H L) (m : lstC p xs ∈ L) (h : t σ H fun zs H2 => g (.ref p) zs H2 Q) : KBM K "list" g t σ (.ref p) H Q := w_kbm (ty_list (hh.sqL m)) h
theorem g_kbm0 {g : V → List V → Hp → VK → Prop} (hh : Hd H L) (m : lstC p xs ∈ L) (h : g (.ref p) [] H Q) : KBM0 K "list" g (.ref p) H Q := w_kbm0 (ty_list (hh.sqL m)) h
theorem g_popAt (hh : Hd H L) (k : Pk L (lstC p xs) M) (hn : n < xs.length) (hb : n < 2 ^ 62) (hv : xs[n]? = some y) (q : ∀ H2, Hd H2 (lstC p (xs.eraseIdx n) :: M) → Q y H2) : rPopAt (.ref p) [.int (n : Int)] H Q := w_popAt ((hh.pk k).lst (List.mem_cons_self ..)) hn hb hv fun H2 g => q H2 (hh.chgL k g)
theorem g_listL (hh : Hd H L) (h : SqL K H p ys) (q : ∀ l H2, Hd H2 (lstC l ys :: L) → Q (.ref l) H2) : CB (rListOf K) [.ref p] H Q := c_listL h fun l H2 n2 => q l H2 (hh.newL n2)
theorem g_listT (hh : Hd H L) (h : SqT K H p ys) (q : ∀ l H2, Hd H2 (lstC l ys :: L) → Q (.ref l) H2) : CB (rListOf K) [.ref p] H Q := c_listT h fun l H2 n2 => q l H2 (hh.newL n2)
theorem g_tupL (hh : Hd H L) (h : SqL K H p ys) (q : ∀ l H2, Hd H2 (tupC l ys :: L) → Q (.ref l) H2) : CB (rTupOf K) [.ref p] H Q := c_tupL h fun l H2 n2 => q l H2 (hh.newT n2)
theorem g_fld (hh : Hd H L) (m : insC a C fs ∈ L) (c : Cls K C) (n : NoAttr K C f) (l : fs.lookup f = some v) (q : Q v H) : KFld K f (.ref a) H Q := let ⟨_, e⟩ := hh.ins m; w_kfld e c n l q
theorem g_sfld (hh : Hd H L) (k : Pk L (insC a C fs) M) (c : Cls K C) (n : NoAttr K C f) (hl : fs.length < 1000) (q : ∀ H2, Hd H2 (insC a C (putF f y fs) :: M) → D.nx σ H2) : KSFld K f D σ y (.ref a) H :=
  let ⟨_, e⟩ := (hh.pk k).ins (List.mem_cons_self ..)
  w_ksfld e c n hl fun H2 g => q H2 (hh.chgI k g)
theorem g_meth {m : Str} {t : TA} (hh : Hd H L) (k : insC a C fs ∈ L) (l : fs.lookup m = none) (h : t σ H fun vs H2 => sp (.ref a :: (vs ++ dvs)) H2 Q E) : KMeth C m sp dvs E t σ Q (.ref a) H := let ⟨_, e⟩ := hh.ins k; w_kmeth e l h
theorem g_prop (hh : Hd H L) (k : insC a C fs ∈ L) (h : sp [.ref a] H Q E) : KProp C sp E Q (.ref a) H := let ⟨_, e⟩ := hh.ins k; w_kprop e h
theorem g_make {vs : List V} (hh : Hd H L) (q : ∀ x H2, Hd H2 (insC x C [] :: L) → sp (.ref x :: (vs ++ dvs)) H2 (fun v H2 => v = .non ∧ Q (.ref x) H2) E) : KMake C sp dvs E Q vs H := fun x dx hx hdx ne => by
  have u : Upt [] H (upd (upd H dx (.own x)) x (.ins C dx [])) := fun b o _ e => by rw [upd_ne (ne_of_none e hx), upd_ne (ne_of_none e hdx)]; exact e
  refine q x _ ((hh.new (H2 := upd (upd H dx (.own x)) x (.ins C dx [])) (p := x) (o := .ins C dx []) (P := fun o => ∃ dx, o = .ins C dx []) ⟨hx, upd_same, u⟩ ⟨dx, rfl⟩))
theorem g_cat (hh : Hd H L) (h1 : lstC a xs ∈ L) (h2 : lstC b ys ∈ L) (hz : xs.length + ys.length ≤ sizeLine) (q : ∀ p H2, Hd H2 (lstC p (xs ++ ys) :: L) → Q (.ref p) H2) : rCat (.ref a) (.ref b) H Q := w_cat (hh.lst h1) (hh.lst h2) hz fun p H2 n2 => q p H2 (hh.newL n2)
theorem g_rep {k : Int} (hh : Hd H L) (h1 : lstC a xs ∈ L) (h2 : -(2 ^ 63) ≤ k) (h3 : k < 2 ^ 63) (hz : xs.length * k.toNat ≤ sizeLine) (q : ∀ p H2, Hd H2 (lstC p (List.replicate k.toNat xs).flatten :: L) → Q (.ref p) H2) : rRep (.ref a) (.int k) H Q := w_rep (hh.lst h1) h2 h3 hz fun p H2 n2 => q p H2 (hh.newL n2)
theorem g_ixI {ns : List Int} {k : Nat} (hh : Hd H L) (m : lstC p (ns.map V.int) ∈ L) (hk : k < ns.length) (q : ∀ z, ns[k]? = some z → Q (.int z) H) : rIxL K (.ref p) (.int k) H Q :=
  w_ixL (hh.sqL m) (atI_nat (by rw [List.getElem?_map, List.getElem?_eq_getElem hk]; rfl)) (q _ (List.getElem?_eq_getElem hk))
theorem g_ixIT {ns : List Int} {k : Nat} (hh : Hd H L) (m : tupC p (ns.map V.int) ∈ L) (hk : k < ns.length) (q : ∀ z, ns[k]? = some z → Q (.int z) H) : rIxT K (.ref p) (.int k) H Q :=
  w_ixT (hh.sqT m) (atI_nat (by rw [List.getElem?_map, List.getElem?_eq_getElem hk]; rfl)) (q _ (List.getElem?_eq_getElem hk))
theorem g_setI {ns : List Int} {k : Nat} {z : Int} (hh : Hd H L) (m : Pk L (lstC p (ns.map V.int)) M) (hk : k < ns.length) (q : ∀ H2, Hd H2 (lstC p ((ns.set k z).map V.int) :: M) → P H2) : rSetL (.ref p) (.int k) (.int z) H P :=
  g_set hh m (n := k) (by rw [List.length_map]; exact Evl.ixN_nat hk) fun H2 h2 => q H2 (by rw [List.map_set]; exact h2)
theorem g_inT {r : Bool} (hh : Hd H L) (h : tupC p xs ∈ L) (fx : flatV x = true) (fs : xs.all flatV = true) (e : inV x xs = r) (q : Q (.bl r) H) : rIn K false x (.ref p) H Q := w_inT (hh.tup h) fx fs e q
theorem g_kapp (hh : Hd H L) (k : Pk L (lstC p xs) M) (hz : xs.length < sizeLine) (q : ∀ H2, Hd H2 (lstC p (xs ++ [y]) :: M) → P H2) : KApp p P y H := w_kapp ((hh.pk k).lst (List.mem_cons_self ..)) hz fun H2 g => q H2 (hh.chgL k g)
theorem g_isiT2 {t A B : String} {q1 q2 r : Bool} {tp : Addr} (hh : Hd H L) (ht : tupC tp [.ty A, .ty B] ∈ L) (ty : TyX K H x (.type t)) (ha : kitB t A = some q1) (hb : kitB t B = some q2) (hr : (q1 || q2) = r) (q : Q (.bl r) H) : CB (rIsiT K) [x, .ref tp] H Q := c_isiT2 (hh.tup ht) ty ha hb hr q
end
section
variable {K : PySem.W.Frag} {σ : L2.St} {H : Hp} {Q : VK} {L : List Cell} {te : TE} {n m : Nat} {j : Int} {a : Addr} {xs : List V}
theorem g_lcR (hh : Hd H L) (hj : j = (m : Int)) (hb : m ≤ 1000000) (Pv : Nat → Addr → Hp → Prop) (h0 : ∀ D H1, Hd H1 (lstC D [] :: L) → Pv 0 D H1)
    (hs : ∀ (i : Nat) D H, i < m → Pv i D H → te ((σ.set n none).set n (some (.int (i : Int)))) H (KApp D (Pv (i + 1) D)))
    (hd : ∀ D H, Pv m D H → Q (.ref D) H) : KLcR (gName n) tYes te [n] σ Q [.int j] H := lc_R hj hb Pv (fun D H1 nn => h0 D H1 (hh.newL nn)) hs hd
theorem g_lcL (hh : Hd H L) (h : SqL K H a xs) (Pv : Nat → Addr → Hp → Prop) (h0 : ∀ D H1, Hd H1 (lstC D [] :: L) → Pv 0 D H1) (hl : ∀ i D H, i ≤ xs.length → Pv i D H → SqL K H a xs)
    (hs : ∀ (i : Nat) x D H, xs[i]? = some x → Pv i D H → te ((σ.set n none).set n (some x)) H (KApp D (Pv (i + 1) D)))
    (hd : ∀ D H, Pv xs.length D H → Q (.ref D) H) : KLcL K (gName n) tYes te [n] σ Q (.ref a) H := lc_L h Pv (fun D H1 nn => h0 D H1 (hh.newL nn)) hl hs hd
end
/-! ### data as blocks of cells -/
/-- the block Z holds the datum d at v -/
def Zc (K : PySem.W.Frag) (Z : List Cell) (n : Nat) (v : V) (d : PyData) : Prop := ∀ H, Hd H Z → Dn K [] H n v d
theorem same_nodup (A : List Addr) : ∃ B : List Addr, B.Nodup ∧ ∀ a, a ∈ A ↔ a ∈ B := by
  induction A with
  | nil => exact ⟨[], List.nodup_nil, fun a => Iff.rfl⟩
  | cons x A ih =>
    obtain ⟨B, h1, h2⟩ := ih
    by_cases h : x ∈ B
    · exact ⟨B, h1, fun a => by rw [List.mem_cons, h2]; exact ⟨fun z => z.elim (fun e => e ▸ h) id, .inr⟩⟩
    · exact ⟨x :: B, List.nodup_cons.mpr ⟨h, h1⟩, fun a => by rw [List.mem_cons, List.mem_cons, h2]⟩
section
variable {K : PySem.W.Frag} {S : List Addr} {H H' : Hp} {a : Addr} {xs : List V}
/-- H' has what H has at A -/
def Agr (A : List Addr) (H H' : Hp) : Prop := ∀ b ∈ A, ∀ o, H b = some o → H' b = some o
theorem SqL.addr (h : SqL K H a xs) : ∃ A : List Addr, (∀ b ∈ A, b = a ∧ ∃ o, H b = some o) ∧ ∀ H', Agr A H H' → SqL K H' a xs := by
  rcases h with (h | ⟨q, h⟩) | h
  · exact ⟨[a], fun b hb => by rw [List.mem_singleton.mp hb]; exact ⟨rfl, _, h⟩, fun H' e => .inl (.inl (e a (List.mem_singleton.mpr rfl) _ h))⟩
  · exact ⟨[a], fun b hb => by rw [List.mem_singleton.mp hb]; exact ⟨rfl, _, h⟩, fun H' e => .inl (.inr ⟨q, e a (List.mem_singleton.mpr rfl) _ h⟩)⟩
  · exact ⟨[], fun b hb => absurd hb (List.not_mem_nil), fun H' _ => .inr h⟩
theorem SqT.addr (h : SqT K H a xs) : ∃ A : List Addr, (∀ b ∈ A, b = a ∧ ∃ o, H b = some o) ∧ ∀ H', Agr A H H' → SqT K H' a xs := by
  rcases h with (h | ⟨q, h⟩) | h
  · exact ⟨[a], fun b hb => by rw [List.mem_singleton.mp hb]; exact ⟨rfl, _, h⟩, fun H' e => .inl (.inl (e a (List.mem_singleton.mpr rfl) _ h))⟩
  · exact ⟨[a], fun b hb => by rw [List.mem_singleton.mp hb]; exact ⟨rfl, _, h⟩, fun H' e => .inl (.inr ⟨q, e a (List.mem_singleton.mpr rfl) _ h⟩)⟩
  · exact ⟨[], fun b hb => absurd hb (List.not_mem_nil), fun H' _ => .inr h⟩
theorem paired_addr {n : Nat} (F : ∀ v d, Dn K S H n v d → ∃ A : List Addr, (∀ b ∈ A, b ∉ S ∧ ∃ o, H b = some o) ∧ ∀ H', Agr A H H' → Dn K [] H' n v d) : ∀ {xs : List V} {ds : List PyData}, Paired (Dn K S H n) xs ds →
    ∃ A : List Addr, (∀ b ∈ A, b ∉ S ∧ ∃ o, H b = some o) ∧ ∀ H', Agr A H H' → Paired (Dn K [] H' n) xs ds
  | _, _, .nil => ⟨[], fun b hb => absurd hb (List.not_mem_nil), fun _ _ => .nil⟩
  | _, _, .cons r t => by
    obtain ⟨A, h1, h2⟩ := F _ _ r
    obtain ⟨B, h3, h4⟩ := paired_addr F t
    refine ⟨A ++ B, fun b hb => (List.mem_append.mp hb).elim (h1 b) (h3 b), fun H' e => .cons (h2 H' fun b hb => e b (List.mem_append_left _ hb)) (h4 H' fun b hb => e b (List.mem_append_right _ hb))⟩
theorem Dn.addr : ∀ {n : Nat} {v : V} {d : PyData}, Dn K S H n v d → ∃ A : List Addr, (∀ b ∈ A, b ∉ S ∧ ∃ o, H b = some o) ∧ ∀ H', Agr A H H' → Dn K [] H' n v d
  | 0, _, _, h => ⟨[], fun b hb => absurd hb (List.not_mem_nil), fun _ _ => h⟩
  | n + 1, v, d, h => by
    rcases h with h | ⟨a, xs, ds, e1, e2, ha, hq, hl, p⟩ | ⟨a, xs, ds, e1, e2, ha, hq, hl, p⟩
    · exact ⟨[], fun b hb => absurd hb (List.not_mem_nil), fun _ _ => .inl h⟩
    · obtain ⟨A, h1, h2⟩ := SqL.addr hq
      obtain ⟨B, h3, h4⟩ := paired_addr (fun v d => Dn.addr) p
      exact ⟨A ++ B, fun b hb => (List.mem_append.mp hb).elim (fun z => ⟨(h1 b z).1 ▸ ha, (h1 b z).2⟩) (h3 b), fun H' e => .inr (.inl ⟨a, xs, ds, e1, e2, by simp, h2 H' fun b hb => e b (List.mem_append_left _ hb), hl, h4 H' fun b hb => e b (List.mem_append_right _ hb)⟩)⟩
    · obtain ⟨A, h1, h2⟩ := SqT.addr hq
      obtain ⟨B, h3, h4⟩ := paired_addr (fun v d => Dn.addr) p
      exact ⟨A ++ B, fun b hb => (List.mem_append.mp hb).elim (fun z => ⟨(h1 b z).1 ▸ ha, (h1 b z).2⟩) (h3 b), fun H' e => .inr (.inr ⟨a, xs, ds, e1, e2, by simp, h2 H' fun b hb => e b (List.mem_append_left _ hb), hl, h4 H' fun b hb => e b (List.mem_append_right _ hb)⟩)⟩
theorem Dn.chunk {n : Nat} {v : V} {d : PyData} (h : Dn K S H n v d) : ∃ Z : List Cell, Hd H Z ∧ (∀ c ∈ Z, c.1 ∉ S) ∧ Zc K Z n v d := by
  obtain ⟨A, h1, h2⟩ := h.addr
  obtain ⟨B, h3, h4⟩ := same_nodup A
  refine ⟨B.map fun a => (a, fun o => H a = some o), ⟨?_, fun c hc => ?_⟩, fun c hc => ?_, fun H' hh => h2 H' fun b hb o ho => ?_⟩
  · rw [List.map_map]
    exact (List.map_id B).symm ▸ h3
  · obtain ⟨a, ha, rfl⟩ := List.mem_map.mp hc
    obtain ⟨o, ho⟩ := (h1 a ((h4 a).mpr ha)).2
    exact ⟨o, ho, ho⟩
  · obtain ⟨a, ha, rfl⟩ := List.mem_map.mp hc
    exact (h1 a ((h4 a).mpr ha)).1
  · obtain ⟨u, e1, e2⟩ := hh.at_ _ (List.mem_map.mpr ⟨b, (h4 b).mp hb, rfl⟩)
    have e3 : H b = some u := e2
    rw [ho] at e3
    cases e3
    exact e1
theorem Hd.join {Z L : List Cell} (h1 : Hd H Z) (h2 : Hd H L) (d : ∀ c ∈ Z, c.1 ∉ L.map Prod.fst) : Hd H (Z ++ L) := by
  refine ⟨?_, fun c hc => (List.mem_append.mp hc).elim (h1.at_ c) (h2.at_ c)⟩
  rw [List.map_append]
  refine List.nodup_append.mpr ⟨h1.nd, h2.nd, fun x hx y hy e => ?_⟩
  subst e
  obtain ⟨c, hc, rfl⟩ := List.mem_map.mp hx
  exact d c hc hy
theorem Zc.up {Z : List Cell} {n m : Nat} {v : V} {d : PyData} (z : Zc K Z n v d) (h : n ≤ m) : Zc K Z m v d := fun H hh => Dn.up h (z H hh)
theorem Zc.sb {Z Y : List Cell} {n : Nat} {v : V} {d : PyData} (z : Zc K Z n v d) (s : Sb Z Y) : Zc K Y n v d := fun H hh => z H (hh.sb s)
theorem Dn.tup_inv {n : Nat} {v : V} {ds : List PyData} (h : Dn K S H (n + 1) v (.tuple ds)) : ∃ a xs, v = .ref a ∧ SqT K H a xs ∧ xs.length ≤ 100000 ∧ Paired (Dn K S H n) xs ds := by
  rcases h with h | ⟨a, xs, ds', e1, e2, ha, hq, hl, p⟩ | ⟨a, xs, ds', e1, e2, ha, hq, hl, p⟩
  · cases h
  · cases e2
  · cases e2; exact ⟨a, xs, e1, hq, hl, p⟩
theorem Dn.lst_inv {n : Nat} {v : V} {ds : List PyData} (h : Dn K S H (n + 1) v (.list ds)) : ∃ a xs, v = .ref a ∧ SqL K H a xs ∧ xs.length ≤ 100000 ∧ Paired (Dn K S H n) xs ds := by
  rcases h with h | ⟨a, xs, ds', e1, e2, ha, hq, hl, p⟩ | ⟨a, xs, ds', e1, e2, ha, hq, hl, p⟩
  · cases h
  · cases e2; exact ⟨a, xs, e1, hq, hl, p⟩
  · cases e2
theorem Dn.int_inv {v : V} {i : Int} : ∀ {n : Nat}, Dn K S H n v (.int i) → v = .int i
  | 0, h => by cases h; rfl
  | n + 1, h => by
    rcases h with h | ⟨a, xs, ds', e1, e2, _⟩ | ⟨a, xs, ds', e1, e2, _⟩
    · cases h; rfl
    · cases e2
    · cases e2
theorem Dn.str_inv {v : V} {z : Str} : ∀ {n : Nat}, Dn K S H n v (.str z) → v = .str z
  | 0, h => by cases h; rfl
  | n + 1, h => by
    rcases h with h | ⟨a, xs, ds', e1, e2, _⟩ | ⟨a, xs, ds', e1, e2, _⟩
    · cases h; rfl
    · cases e2
    · cases e2
theorem Paired.ints_inv {n : Nat} : ∀ {ns : List Int} {xs : List V}, Paired (Dn K S H n) xs (ns.map PyData.int) → xs = ns.map V.int
  | [], _, .nil => rfl
  | _ :: _, _, .cons r t => by rw [Dn.int_inv r, Paired.ints_inv t]; rfl
end
end Wk
set_option Elab.async false
set_option linter.all false
set_option maxRecDepth 100000
set_option maxHeartbeats 4000000
/-! Wk: short loops unrolled, further steps over the ledger. -/
namespace Wk
open PySem PySem.Spec PyProof.Rows L2
section
variable {g : TG} {tb : TS} {D : Ends} {σ : L2.St} {H : Hp}
/-- the rest of a loop over a text, sign by sign -/
def unrS (g : TG) (tb : TS) (D : Ends) : List Nat → L2.St → Hp → Prop
  | [], σ, H => D.nx σ H
  | c :: cs, σ, H => g (.str ⟨#[c]⟩) σ H fun σ2 H2 => tb { D with nx := unrS g tb D cs, ct := unrS g tb D cs, bk := D.nx } σ2 H2
theorem w_unr {x : Str} (h : unrS g tb D x.cps.toList σ H) : KForS g tb D σ (.str x) H := by
  refine ⟨x, rfl, fun i m σ H => unrS g tb D (x.cps.toList.drop i) σ H ∧ m = x.cps.size - i, ⟨_, h, rfl⟩, ?_⟩
  rintro i m σ H ⟨h1, rfl⟩
  cases e : x.cps.toList.drop i with
  | nil =>
    rw [e] at h1
    refine .inl ⟨?_, h1⟩
    have l := congrArg List.length e
    rw [List.length_drop, Array.length_toList, List.length_nil] at l
    show x.cps.size ≤ i
    omega
  | cons c r =>
    rw [e] at h1
    have l := congrArg List.length e
    rw [List.length_drop, Array.length_toList, List.length_cons] at l
    have hi : i < x.cps.size := by omega
    have er : x.cps.toList.drop (i + 1) = r := by rw [← List.drop_drop, e]; rfl
    have ec : x.cps[i]? = some c := by
      have z : x.cps.toList[i]? = some c := by
        have := List.head?_drop (l := x.cps.toList) (i := i)
        rw [e] at this
        exact this.symm
      rw [← Array.getElem?_toList]
      exact z
    refine .inr ⟨hi, unrS g tb D r, fun σ' H' n => ⟨x.cps.size - (i + 1), by omega, er ▸ n, rfl⟩, ?_⟩
    rintro y H' ⟨rfl, c', hc', rfl⟩
    rw [ec] at hc'
    cases hc'
    exact h1
end
end Wk
set_option Elab.async false
set_option linter.all false
set_option maxRecDepth 100000
set_option maxHeartbeats 4000000
/-! Wk: own exception classes over an own class over ValueError: made, raised, caught. -/
namespace Wk
open PySem PySem.Spec PyProof.Rows L2
section
variable {X : Cx} {e : Expr} {es : List Expr} {ta : TA} {p1 p2 pos : Pos}
/-- B.__init__(self, ..), B an own class that leaves __init__ to ValueError -/
theorem pe_weinit {x : Str} {B : Addr} {mc : Value} {pl : Sem Bool} (hg : Gl X x) (hm : X.mg x = some (.ref B)) (hsp : PySem.W.specialIn X.K (.ref B) "__getattribute__" = some (some (.builtin "type.__getattribute__"))) (hr : PySem.W.readsIn X.K B mc = true)
    (vV : PySem.W.findCls X.K (.ref B) mc "__init__" = some (.val (.builtin "ValueError.__init__"))) (ha : PA X (e :: es) ta)
    (hc : eval (.Call (.Attribute (.Name x p1) "__init__" p2) (e :: es) [] pos) X.env = (do
      let ov ← eval (.Name x p1) X.env
      standAt p2.atName
      let (f, first) ← holding [ov] (getMethod ov "__init__" pl)
      callWith pos f first (backTo pos (starEach (e :: es) X.env)) (backToKw pos (keywordEach [] X.env))) := by rfl) (hdb : (x == ("__debug__" : Str)) = false := by decide)
    (he : starEach (e :: es) X.env = (false, eval e X.env) :: starEach es X.env := by rfl) (hpl : (backTo pos (starEach es X.env)).any (·.1) = false := by rfl) :
    PE X (.Call (.Attribute (.Name x p1) "__init__" p2) (e :: es) [] pos) (tVeI X.K ta) := by
  refine ⟨fun pins s σ H Q I h => ?_⟩
  refine PySem.W.methodCall_KW (ld_glob I hg hm ?_ hdb) hc
  refine PySem.W.method_cls I.kIn hsp (PySem.W.cls_value I.kIn hr vV (by decide +kernel) ?_)
  show wpAny _ _ (callWith pos (Value.builtin "ValueError.__init__") [] (backTo pos (starEach (e :: es) X.env)) []) _ _ _
  refine PyProof.Rows.callWith_method1 (thn (ha.run pos pins _ σ H _ (I.tok _) h) fun us s1 ⟨vs, H1, I1, r1, a, C, ws, ev, hl, T, ea, q⟩ => ?_) he hpl
  subst ev
  cases r1 with
  | @cons _ u0 _ ur ra rw' =>
    obtain rfl : u0 = Value.ref a := ra
    have hlen : ur.length ≤ sizeLine := by
      rw [← Paired.length rw', sizeLine_eq]
      omega
    exact oinit_ok T I1 ea hlen fun s' J => ⟨.non, H1, J, rfl, q⟩
end

/-! ### an own class is called: its __init__ is walked; the new error's context is None -/
section
variable {X : Cx} {e : Expr} {es : List Expr} {ta : TA} {p pos : Pos}
theorem pmk_oexN {CX : CXT} {x : Str} {C fI : Addr} {k : Nat} {fd : FuncData} {ps : List Str} {sp : Sp} {ds : List Value} {dvs : List V} (T : OexC X.K C) (iC : PySem.W.findIn X.K (.ref C) "__init__" = some (some (.ref fI)))
    (tI : PySem.W.typeIn X.K (.ref fI) = some (.type "function")) (F1 : FnOk X.prog X.w X.K X.mg X.base CX k fI fd ps sp) (hr : Room (k + 1) X.A) (hb : Binds X.K fd ps ds) (hd : Vals dvs ds) (hx : Passes CX X (fun _ _ _ => False))
    (hg : Gl X x) (hm : X.mg x = some (.ref C)) (ha : PA X (e :: es) ta) (hdb : (x == ("__debug__" : Str)) = false := by decide)
    (he : starEach (e :: es) X.env = (false, eval e X.env) :: starEach es X.env := by rfl) (hpl : (backTo pos (starEach es X.env)).any (·.1) = false := by rfl) :
    L2N.PMk X (.Call (.Name x p) (e :: es) [] pos) (tMkO C sp dvs ta) := by
  intro pins s σ H Q I h
  obtain ⟨nm, q, N, bs, bm, sn, sub, ab, col, dd, k0, k1, k2, k3, k5, hC, hbm⟩ := T.cls
  refine wpAny_Call_Name_kw (ld_glob I hg hm ?_ hdb)
  refine PySem.W.callWith_K (h₀ := X.base) I.ok.mod.kin T.kC (thn (ha.run pos pins s σ H _ I h) fun us s1 ⟨vs, H1, I1, r1, hz, q1⟩ => ⟨I1.kIn, ?_⟩) he hpl
  show wpAny _ _ (call (.ref C) us) _ _ _
  obtain ⟨hp, g, dr, tk, os⟩ := s1
  have above : hp.objs.size ≤ hp.objs.size + 1 := Nat.le_add_right _ 1
  have free : H1 (hp.objs.size + 1) = none := I1.hok.fresh above
  have stay : ∀ b o, hp.get? b = some o → ((hp.push (PySem.W.kdv_tup us)).push (PySem.HandSPX.excO C hp.objs.size)).get? b = some o :=
    fun b o z => Heap.get?_push_of_some _ (Heap.get?_push_of_some _ z)
  have new : ((hp.push (PySem.W.kdv_tup us)).push (PySem.HandSPX.excO C hp.objs.size)).get? (hp.objs.size + 1) = some (PySem.HandSPX.excO C hp.objs.size) := by heap_get
  have I2 : Inv X pins σ (upd H1 (hp.objs.size + 1) (exo (hp.objs.size + 1) C none)) ⟨(hp.push (PySem.W.kdv_tup us)).push (PySem.HandSPX.excO C hp.objs.size), g, dr, tk, os⟩ :=
    I1.laid (t' := tk) (a := hp.objs.size + 1) (o := exo (hp.objs.size + 1) C none) (h' := (hp.push (PySem.W.kdv_tup us)).push (PySem.HandSPX.excO C hp.objs.size)) stay above (exo_ok new)
  have body := q1 (hp.objs.size + 1) free
  have rel : Vals (V.ref (hp.objs.size + 1) :: (vs ++ dvs)) (Value.ref (hp.objs.size + 1) :: (us ++ ds)) := .cons rfl (r1.append hd)
  have many : (Value.ref (hp.objs.size + 1) :: us ++ ds).length = ps.length := by
    have z := rel.length
    rw [F1.len _ _ _ _ body] at z
    exact z.symm
  have short : us.length ≤ sizeLine := by
    have z := Paired.length r1
    have z2 := sizeLine_eq
    omega
  refine wpAny_call (PySem.HandSPX.call_own F.excBase_ValueError (fun Y => PySem.HandSPX.refsVE_contains Y bm hbm) (I1.kIn _ _ hC) (PySem.W.looks_findIn I1.kIn iC) (fun self => PySem.W.bind_fn I1.kIn self tI) short
    (codeAny_mono (F1.run _ X.stack _ _ ⟨Value.ref (hp.objs.size + 1) :: us, []⟩ (Value.ref (hp.objs.size + 1) :: (us ++ ds)) _ _ (fun _ _ _ => False) (hr.make C us []) (I2.env0.make C us []) (hb _ (Value.ref (hp.objs.size + 1) :: us) I2.kIn many) rel body) fun r s' out => ?_))
  cases r with
  | error er => exact hx pins σ _ _ er s' I2 out
  | ok fl =>
    cases fl with
    | next => exact False.elim out
    | brk => exact False.elim out
    | cont => exact False.elim out
    | ret u =>
      obtain ⟨v, H2, os2, bare2, un2, hok2, rv, ev, d, fs, ea, ed, hd1, q2⟩ := out
      subst ev
      obtain ⟨h2, g2, d2, t2, os'⟩ := s'
      obtain ⟨t0, G, J, kG, ge, hoe, na⟩ := mk_end0 (d2 := d2) (t2 := t2) I1 above stay un2 hok2 os2 bare2 ea ed hd1
      exact ⟨rv, _, _, _, ⟨G, g2, d2, t2, os'⟩, _, .ref C, some d, rfl, J, kG, ge, hoe, ⟨rfl, rfl, fun vs z => by cases z; rfl⟩, rfl, rfl, na, rfl, bare2, raises_own T.exC T.tyC, q2⟩
end

/-! ### a handled error that stands pinned: its class is asked, its fields are read -/
/-- isinstance(e, c), e the pinned error of the class D with its dict at dd -/
def rIsP (K : PySem.W.Frag) (D a dd : Addr) : List V → Hp → VK → Prop := fun xs H Q =>
  ∃ (c : V) (cv : Value) (b : Bool) (fs : List (Str × V)), xs = [.ref a, c] ∧ (∀ u, RelV c u → u = cv) ∧ PySem.W.kitOne K (.ref D) cv = some b ∧ H dd = some (.xd fs) ∧ Q (.bl b) H
theorem call_isP {X : Cx} {a D dd : Addr} {oe : Obj} (C : ExcC X.K D) (hp : (a, oe) ∈ X.pn) (hz : L2.Zc (.ref D) (some dd) oe) (hf : ∃ vs, oe.data = .fields vs) : CallR X (.builtin "isinstance") (rIsP X.K D a dd) := by
  intro pins s σ H xs us Q I r h
  obtain ⟨c, cv, b, fs, rfl, hcv, e, hd, q⟩ := h
  cases r with
  | cons rx rr =>
    cases rr with
    | cons rt rr =>
      cases rr
      cases rx
      have ec := hcv _ rt
      subst ec
      obtain ⟨hget, _⟩ := I.pin (a, oe) (List.mem_append_left _ hp)
      obtain ⟨vs, hv⟩ := hf
      have ho : ObjOk X.prog X.w H s.heap dd (.xd fs) := I.hok dd _ hd
      obtain ⟨od, hod⟩ := objOk_get ho
      have J : PySem.W.InstAt s.heap a oe D (some od) := ⟨hget, hz.1, by unfold PySem.W.notCls; rw [hv] <;> rfl, by rw [hz.2]; exact hod⟩
      have hcl : (PySem.W.clsIn X.K D).isSome = true := by
        obtain ⟨cd, hc, _⟩ := PySem.W.any_some C.hd
        rw [hc]
        rfl
      exact PySem.W.kia_one (PySem.W.kitx_exc hcl C.hg C.hk C.hs C.ha C.hn C.ht C.hm) I.kIn J e (fun z => nomatch z) fun tk => ⟨.bl b, H, I.kept (t' := tk) fun _ _ z => z, rfl, q⟩
theorem pe_xfP {X : Cx} {a C : Addr} {oe : Obj} {cls : Value} {d : Option Addr} {e : Expr} {te : TE} {pos : Pos} {n : Str} (T : XfC X.K C) (hno : PySem.W.findIn X.K (.ref C) n = some none)
    (hp : (a, oe) ∈ X.pn) (hz : L2.Zc cls d oe) (hf : ∃ vs, oe.data = .fields vs) (he : PE X e te) (hb : attributeBase e n X.env (eval e X.env) = eval e X.env := by rfl) : PE X (.Attribute e n pos) (tXf a cls d C n te) := by
  refine ⟨fun pins s σ H Q I h => ?_⟩
  refine attr_of hb (thn (he.run pins s σ H _ I h) fun u s1 out => ?_)
  obtain ⟨x, H1, I1, rx, ex, ec, dd, fs, v, ed, ea, l, q⟩ := out
  subst ex ec ed
  obtain rfl : u = Value.ref a := rx
  have hget := (I1.pin (a, oe) (List.mem_append_left _ hp)).1
  obtain ⟨vs, hd⟩ := hf
  obtain ⟨mA, hns, hr⟩ := (I1.hok dd _ ea : ObjOk X.prog X.w H1 s1.heap dd (.xd fs))
  obtain ⟨od, ho, hl⟩ := lookIn_ns hns
  obtain ⟨u, hu, ru⟩ := RelO.some_of (v := v) (o := mA n) (by rw [← l]; exact hr n)
  have J : PySem.W.InstAt s1.heap a oe C (some od) := ⟨hget, hz.1, by unfold PySem.W.notCls; rw [hd] <;> rfl, by rw [hz.2]; exact ho⟩
  exact PySem.HandSPX.exc_get I1.kIn J T.ga T.gg T.exC (PySem.W.findObj_own T.hdC hno rfl (by rw [hl, hu])) (handed_of ru) ⟨v, H1, I1.tok _, ru, q⟩

/-! ### a def that gets the handled error: its contract speaks of the error's object -/
abbrev SpP := Addr × Obj → Sp
structure FnE (P : Program) (w : World) (K : PySem.W.Frag) (mg : Str → Option Value) (base : Heap) (CX : CXT) (k : Nat) (f : Addr) (fd : FuncData) (ps : List Str) (sp : SpP) : Prop where
  len : ∀ p vs H Q E, sp p vs H Q E → vs.length = ps.length
  run : ∀ (A : Around) (outer : List Env) (s : Shared) (H : Hp) (args : Args) (us : List Value) (vs : List V) (Q : VK) (E : XK) (p : Addr × Obj), L2H.RoomH k A → L2H.Hot1 A p → L2H.PinOk outer H s p → Env0 P w K mg base A outer s H →
    BindsTo s fd args (ps.zip us) → Vals vs us → sp p vs H Q E → codeAny (model P w) A (.call (.ref f) args) (CR CX outer P w H s Q E) s
theorem fn_ofE {CX : CXT} {P : Program} {w : World} {K : PySem.W.Frag} {mg : Str → Option Value} {base : Heap} {k : Nat} {f : Addr} {name qual : Str} {params : Arguments} {body : List Stmt} {scope : Scope} {dV kV doc pm cdv ct oc : Value} {an od : Option Addr}
    {osl : Array (Option Value)} {N ps : List Str} {sp : SpP} (lk : K.lookup f = some ⟨oc, od, .func (PySem.W.fnOf name qual params body scope dV kV doc pm an cdv ct), osl⟩) (hcd : PySem.W.codeIn K cdv qual = true) (S : FnScope N ps scope)
    (len : ∀ p vs H Q E, sp p vs H Q E → vs.length = ps.length)
    (hbody : ∀ (A : Around) (outer : List Env) (s : Shared) (H : Hp) (vs : List V) (Q : VK) (E : XK) (p : Addr × Obj), L2H.Hot1 A p → L2H.RoomH k (A.deeper (envOfC qual scope s.heap.objs.size f cdv)) → sp p vs H Q E →
      ∃ t, PSs (L2H.cxH CX P w K mg base N qual scope f cdv A outer s H E p) body t ∧ t { nx := fun _ H' => Q .non H', rt := Q } (L2.start N vs) H) :
    FnE P w K mg base CX (k + 1) f (PySem.W.fnOf name qual params body scope dV kV doc pm an cdv ct) ps sp := by
  refine ⟨len, fun A outer s H args us vs Q E p room hot pin e0 binds rel told => ?_⟩
  have many := len _ _ _ _ _ told
  have KX : K.In s.heap := e0.mod.kin.keeps fun b o z => (e0.bs b o z).1
  have lim : s.heap.NoLimit := e0.mod.nolimit.keeps fun b o z => (e0.bs b o z).1
  have kinds : ∀ y ∈ ps.zip us, scope.names.lookup y.1 = some .local ∨ (scope.names.lookup y.1 = some .cell ∧ ((cellsFrom (s.heap.objs.size + 1) scope.names []).lookup y.1).isSome = true) := by
    rintro ⟨n, v⟩ hy
    rcases S.par n (List.of_mem_zip hy).1 with z | z
    · exact .inl z
    · exact .inr ⟨z, PySem.W.cellsFrom_some _ _ _ (.inl z)⟩
  refine codeAny_call_function room.depth (KX _ _ lk) rfl S.co S.gen rfl (PySem.W.codeRec_of KX hcd) (binds _ _ _ _ ?_)
  refine wpAny_newFunctionEnv_cells S.kind kinds fun env he s1 x => ?_
  subst he
  refine ⟨lim.keeps x.toInCall.keep, codeAny_func ?_⟩
  obtain ⟨t, walk, goal⟩ := hbody A outer s H vs Q E p hot (room.deeper _) told
  have I : Inv (L2H.cxH CX P w K mg base N qual scope f cdv A outer s H E p) [] (L2.start N vs) H s1 := L2H.inv_startH S pin e0 many rel x
  refine wpAny_mono (walk.run [] s1 (L2.start N vs) H _ I goal) (fun fl s' out => ?_) fun e s' out => out
  have back : ∀ {σ' : L2.St} {H' : Hp} {v : V} {u : Value}, Inv (L2H.cxH CX P w K mg base N qual scope f cdv A outer s H E p) [] σ' H' s' → RelV v u → Q v H' → CE outer P w H s Q u s' :=
    fun {σ' H' v u} J rv q => ⟨v, H', J.os, J.bare, J.base, J.hok, rv, q⟩
  cases fl with
  | next =>
    obtain ⟨σ', H', J, q⟩ := out
    exact back (v := V.non) (u := Value.none) J rfl q
  | ret u =>
    obtain ⟨v, σ', H', J, rv, q⟩ := out
    exact back J rv q
  | brk =>
    obtain ⟨_, _, _, q⟩ := out
    exact False.elim q
  | cont =>
    obtain ⟨_, _, _, q⟩ := out
    exact False.elim q
section
variable {X : Cx} {CX : CXT} {k : Nat} {f : Addr} {fd : FuncData} {ps : List Str} {sp : SpP} {E : L2.St → XK} {x : Str} {q pos : Pos} {e : Expr} {es : List Expr} {t : TA}
/-- f(e, ..) within a suite whose handled error is p -/
theorem pe_callE {p : Addr × Obj} {sp2 : Sp} (imp : ∀ vs H Q E, sp2 vs H Q E → sp p vs H Q E) (F : FnE X.prog X.w X.K X.mg X.base CX k f fd ps sp) (hr : L2H.RoomH k X.A) (hot : L2H.Hot1 X.A p) (hp : p ∈ X.pn) (hg : Gl X x) (hm : X.mg x = some (.ref f)) (hk : PySem.W.keepIn X.K (.ref f) = true) (hb : Binds X.K fd ps [])
    (hx : ∀ σ, PassesAt CX X σ (E σ)) (ha : PA X (e :: es) t) (hdb : (x == ("__debug__" : Str)) = false := by decide) (he : starEach (e :: es) X.env = (false, eval e X.env) :: starEach es X.env := by rfl)
    (hpl : (backTo pos (starEach es X.env)).any (·.1) = false := by rfl) : PE X (.Call (.Name x q) (e :: es) [] pos) (tCallS sp2 E t) := by
  refine ⟨fun pins s σ H Q I h => ?_⟩
  refine wpAny_Call_Name_kw (ld_glob I hg hm ?_ hdb)
  refine PySem.W.callWith_K (h₀ := X.base) I.ok.mod.kin hk (thn (ha.run pos pins s σ H _ I h) fun us s1 ⟨vs, H1, I1, rel, told⟩ => ⟨I1.kIn, ?_⟩) he hpl
  have many : us.length = ps.length := by rw [← rel.length]; exact F.len _ _ _ _ _ (imp _ _ _ _ told)
  have binds := hb s1 us I1.kIn (by rw [List.append_nil]; exact many)
  rw [List.append_nil] at binds
  have P1 := I1.pin p (List.mem_append_left _ hp)
  have pin : L2H.PinOk X.stack H1 s1 p := ⟨P1.1, P1.2.1, fun hm => (List.mem_cons.mp (I1.stkSub p.1 hm)).elim P1.2.2.1 P1.2.2.2.1, P1.2.2.2.2⟩
  refine wpAny_call (codeAny_mono (F.run X.A X.stack s1 H1 ⟨us, []⟩ us vs Q (E σ) p hr hot pin I1.env0 binds rel (imp _ _ _ _ told)) fun r s' out => ?_)
  cases r with
  | error e => exact hx σ pins H1 s1 e s' I1 out
  | ok fl =>
    cases fl with
    | ret u => exact I1.after out
    | next => exact False.elim out
    | brk => exact False.elim out
    | cont => exact False.elim out
end

/-! ### defs that may raise, under their names; nothing is let out that is not told -/
structure CalN (P : Program) (w : World) (K : PySem.W.Frag) (mg : Str → Option Value) (base : Heap) (k : Nat) (x : Str) (sp : Sp) : Prop where
  ex : ∃ (f : Addr) (fd : FuncData) (ps : List Str), FnOk P w K mg base (L2N.CX P w) k f fd ps sp ∧ mg x = some (.ref f) ∧ PySem.W.keepIn K (.ref f) = true ∧ Binds K fd ps []
theorem passN {X : Cx} : Passes (L2N.CX X.prog X.w) X (fun _ _ _ => False) := fun _ _ _ _ _ _ _ h => by
  obtain ⟨_, _, _, _, _, _, _, _, _, _, _, _, z⟩ := h
  exact z.elim
section
variable {X : Cx} {k j : Nat} {sp : Sp} {W : WX} {x : Str} {q pos : Pos} {e : Expr} {es : List Expr} {t : TA}
theorem pe_cN (c : CalN X.prog X.w X.K X.mg X.base k x sp) (hr : Room j X.A) (hk : k ≤ j) (tk : L2N.Takes X W) (hg : Gl X x) (ha : PA X (e :: es) t)
    (hdb : (x == ("__debug__" : Str)) = false := by decide) (he : starEach (e :: es) X.env = (false, eval e X.env) :: starEach es X.env := by rfl) (hpl : (backTo pos (starEach es X.env)).any (·.1) = false := by rfl) :
    PE X (.Call (.Name x q) (e :: es) [] pos) (tCallS sp (WE W) t) := by
  obtain ⟨f, fd, ps, F, hm, kp, b⟩ := c.ex
  exact pe_callS F (hr.mono hk) hg hm kp b (fun σ => L2N.passAt tk σ) ha hdb he hpl
end
theorem takes0N {X : Cx} : L2N.Takes X (fun _ _ _ _ => False) := fun _ _ x => by
  obtain ⟨_, _, _, _, _, _, _, _, _, _, _, _, _, _, _, _, z⟩ := x
  exact z.elim
/-- behind the making of an error: what stood stands, and its dict -/
theorem made_heap {H1 : Hp} {a d C : Addr} {o1 : HO} {fs : List (Str × V)} (n : H1 a = none) (nd : d ≠ a) : upd (del (upd (upd (upd H1 a o1) d (exd d fs)) a (exo a C (some d))) a) d (.xd fs) = upd H1 d (.xd fs) := by
  funext b
  by_cases hd : b = d
  · rw [hd, upd_same, upd_same]
  · rw [upd_ne hd, upd_ne hd]
    by_cases ha : b = a
    · rw [ha, del_same, n]
    · rw [del_ne ha, upd_ne ha, upd_ne hd, upd_ne ha]
end Wk
set_option Elab.async false
set_option linter.all false
set_option maxRecDepth 100000
set_option maxHeartbeats 4000000
/-! Wk: methods and classes called with keywords; methods that may raise. -/
namespace Wk
open PySem PySem.Spec PyProof.Rows L2
section
variable {X : Cx} {CX : CXT} {k n : Nat} {f C : Addr} {fd : FuncData} {ps ks : List Str} {sp : Sp} {x m : Str} {p pos apos : Pos} {e o : Expr} {es : List Expr} {kws : List Keyword} {ta : TE} {t tk : TA} {g : List Value → List Value → List Value} {gV : List V → List V → List V}
theorem run_kwS {E : XK} {pins : List (Addr × Obj)} {σ : L2.St} {H : Hp} {s : Shared} {Q : VK} {us ws : List Value} {vs zs : List V} (F : FnOk X.prog X.w X.K X.mg X.base CX k f fd ps sp) (hr : Room k X.A) (hb : KBn X.K fd ps n ks g gV) (hx : PassesAt CX X σ E)
    (I : Inv X pins σ H s) (r : Vals vs us) (rz : Vals zs ws) (l1 : vs.length = n) (l2 : zs.length = ks.length) (h : sp (gV vs zs) H Q E) : wpAny (model X.prog X.w) X.A (call (.ref f) us (ks.zip ws)) (EP X pins σ Q) X.xe s := by
  have r2 := hb.rel r rz
  refine wpAny_call (codeAny_mono (F.run X.A X.stack s H ⟨us, ks.zip ws⟩ (g us ws) (gV vs zs) Q E hr I.env0 (hb.to s us ws I.kIn (r.length.symm.trans l1) (rz.length.symm.trans l2)) r2 h) fun r s' out => ?_)
  cases r with
  | error e => exact hx pins H s e s' I out
  | ok fl =>
    cases fl with
    | ret u => exact I.after out
    | next => exact False.elim out
    | brk => exact False.elim out
    | cont => exact False.elim out
/-- o.m(k = v, ..) -/
def tMethK (C : Addr) (m : Str) (n : Nat) (sp : Sp) (gV : List V → List V → List V) (E : L2.St → XK) (ta : TE) (tk : TA) : TE := fun σ H Q => ta σ H fun x H1 => ∃ a dx fs, x = .ref a ∧ H1 a = some (.ins C dx fs) ∧ fs.lookup m = none ∧ tk σ H1 fun zs H2 => zs.length = n ∧ sp (gV [x] zs) H2 Q (E σ)
theorem pe_methK {E : L2.St → XK} {pl : Sem Bool} (he : PE X o ta) (c : Cls X.K C) (hm : Meth X.K C m f) (F : FnOk X.prog X.w X.K X.mg X.base CX k f fd ps sp) (hr : Room k X.A) (hb : KBn X.K fd ps 1 ks g gV) (hx : ∀ σ, PassesAt CX X σ (E σ)) (hkw : PK X kws tk)
    (hall : (backToKw pos (keywordEach kws X.env)).all (·.1.isSome) = true := by rfl) (hks : (backToKw pos (keywordEach kws X.env)).filterMap (·.1) = ks := by rfl)
    (hpl : ((backTo pos (starEach [] X.env)).any (·.1) || (backToKw pos (keywordEach kws X.env)).any (·.1.isNone)) = false := by rfl)
    (ht : eval (.Call (.Attribute o m apos) [] kws pos) X.env = (do
      let ov ← eval o X.env
      standAt apos.atName
      let (f, first) ← holding [ov] (getMethod ov m pl)
      callWith pos f first (backTo pos (starEach [] X.env)) (backToKw pos (keywordEach kws X.env))) := by rfl) :
    PE X (.Call (.Attribute o m apos) [] kws pos) (tMethK C m ks.length sp gV E ta tk) := by
  refine ⟨fun pins s σ H Q I h => ?_⟩
  refine PySem.W.methodCall_KW (pl := pl) (thn (he.run pins s σ H _ I h) fun u s1 ⟨x, H1, I1, rx, a, dx, fs, ex, ea, l, q⟩ => ?_) ht
  subst ex
  obtain rfl : u = Value.ref a := rx
  refine getmeth_ok I1 ea c hm l ?_
  refine PySem.W.callWith_KW0 (first := [.ref a]) (h₀ := X.base) I.ok.mod.kin hm.kp hall ?_ hpl
  refine thn (hkw.run pos pins s1 σ H1 _ I1 q) fun ws s2 ⟨zs, H2, I2, rz, l2, q2⟩ => ⟨I2.kIn, ?_⟩
  rw [hks]
  exact run_kwS (us := [.ref a]) (vs := [.ref a]) F hr hb (hx σ) I2 (.cons rfl .nil) rz rfl l2 q2
/-- o.m(e, ..) that may raise -/
def tMethE (C : Addr) (m : Str) (sp : Sp) (E : L2.St → XK) (ta : TE) (t : TA) : TE := fun σ H Q => ta σ H fun x H1 => ∃ a dx fs, x = .ref a ∧ H1 a = some (.ins C dx fs) ∧ fs.lookup m = none ∧ t σ H1 fun vs H2 => sp (x :: vs) H2 Q (E σ)
theorem pe_methE {E : L2.St → XK} {pl : Sem Bool} (he : PE X o ta) (c : Cls X.K C) (hm : Meth X.K C m f) (F : FnOk X.prog X.w X.K X.mg X.base CX k f fd ps sp) (hr : Room k X.A) (hb : Binds X.K fd ps []) (hx : ∀ σ, PassesAt CX X σ (E σ)) (ha : PA X (e :: es) t)
    (hst : starEach (e :: es) X.env = (false, eval e X.env) :: starEach es X.env := by rfl) (hpl : (backTo pos (starEach es X.env)).any (·.1) = false := by rfl)
    (ht : eval (.Call (.Attribute o m apos) (e :: es) [] pos) X.env = (do
      let ov ← eval o X.env
      standAt apos.atName
      let (f, first) ← holding [ov] (getMethod ov m pl)
      callWith pos f first (backTo pos (starEach (e :: es) X.env)) (backToKw pos (keywordEach [] X.env))) := by rfl) :
    PE X (.Call (.Attribute o m apos) (e :: es) [] pos) (tMethE C m sp E ta t) := by
  refine ⟨fun pins s σ H Q I h => ?_⟩
  refine PySem.W.methodCall_KW (pl := pl) (thn (he.run pins s σ H _ I h) fun u s1 ⟨x, H1, I1, rx, a, dx, fs, ex, ea, l, q⟩ => ?_) ht
  subst ex
  obtain rfl : u = Value.ref a := rx
  refine getmeth_ok I1 ea c hm l ?_
  refine PySem.W.callWith_K (first := [.ref a]) (h₀ := X.base) I.ok.mod.kin hm.kp (thn (ha.run pos pins s1 σ H1 _ I1 q) fun us s2 ⟨vs, H2, I2, r, q2⟩ => ⟨I2.kIn, ?_⟩) hst hpl
  exact run_fnS (us := .ref a :: us) (vs := .ref a :: vs) F hr hb (hx σ) I2 (.cons rfl r) q2
end
/-- no defaults: the values in the order of the parameters -/
theorem kbn0 {K : PySem.W.Frag} {x qual : Str} {params : Arguments} {body : List Stmt} {scope : Scope} {f : Addr} {fd : FuncData} {ps ks : List Str} {n : Nat} {g : List Value → List Value → List Value} {gV : List V → List V → List V} (F : FunD K x qual params body scope [] [] f fd)
    (hrel : ∀ {vs : List V} {us : List Value} {zs : List V} {ws : List Value}, Vals vs us → Vals zs ws → Vals (gV vs zs) (g us ws))
    (h : ∀ (kV doc pm : Value) (an : Option Addr) (cdv ct : Value) (us ws : List Value), us.length = n → ws.length = ks.length → bindArgs (PySem.W.fnOf x qual params body scope .none kV doc pm an cdv ct) ⟨us, ks.zip ws⟩ = pure (ps.zip (g us ws))) : KBn K fd ps n ks g gV := by
  obtain ⟨oc, od, dV, kV, doc, pm, an, cdv, ct, osl, rfl, lk, hcd, hD, hK⟩ := F.ex
  rcases hD with ⟨_, rfl⟩ | ⟨e, _⟩
  · exact ⟨fun s us ws _ l1 l2 => .of_eq (h kV doc pm an cdv ct us ws l1 l2), fun r1 r2 => hrel r1 r2⟩
  · exact absurd rfl e
/-! ### under their names -/
/-- a method called with keywords alone -/
structure MetK (P : Program) (w : World) (K : PySem.W.Frag) (mg : Str → Option Value) (base : Heap) (k : Nat) (C : Addr) (m : Str) (sp : Sp) (ks : List Str) (gV : List V → List V → List V) : Prop where
  ex : ∃ (f : Addr) (fd : FuncData) (ps : List Str) (g : List Value → List Value → List Value), Cls K C ∧ Meth K C m f ∧ FnOk P w K mg base C8.CX0 k f fd ps sp ∧ KBn K fd ps 1 ks g gV
/-- a method that may raise, called by place and with keywords -/
structure MetN (P : Program) (w : World) (K : PySem.W.Frag) (mg : Str → Option Value) (base : Heap) (k : Nat) (C : Addr) (m : Str) (sp : Sp) (ks : List Str) (gV : List V → List V → List V) : Prop where
  ex : ∃ (f : Addr) (fd : FuncData) (ps : List Str) (g : List Value → List Value → List Value), Cls K C ∧ Meth K C m f ∧ FnOk P w K mg base (L2N.CX P w) k f fd ps sp ∧ Binds K fd ps [] ∧ KBn K fd ps 1 ks g gV
/-- a class called with keywords alone -/
structure MakK (P : Program) (w : World) (K : PySem.W.Frag) (mg : Str → Option Value) (base : Heap) (k : Nat) (x : Str) (C : Addr) (sp : Sp) (ks : List Str) (gV : List V → List V → List V) : Prop where
  ex : ∃ (f : Addr) (fd : FuncData) (ps : List Str) (g : List Value → List Value → List Value), Mk K C f ∧ FnOk P w K mg base C8.CX0 k f fd ps sp ∧ mg x = some (.ref C) ∧ KBn K fd ps 1 ks g gV
section
variable {X : Cx} {k j : Nat} {C : Addr} {sp : Sp} {x m : Str} {p pos apos : Pos} {e o : Expr} {es : List Expr} {kws : List Keyword} {ta : TE} {t tk : TA} {ks : List Str} {gV : List V → List V → List V} {W : WX}
theorem pe_mtK {pl : Sem Bool} (c : MetK X.prog X.w X.K X.mg X.base k C m sp ks gV) (hr : Room j X.A) (hk : k ≤ j) (he : PE X o ta) (hkw : PK X kws tk)
    (hall : (backToKw pos (keywordEach kws X.env)).all (·.1.isSome) = true := by rfl) (hks : (backToKw pos (keywordEach kws X.env)).filterMap (·.1) = ks := by rfl)
    (hpl : ((backTo pos (starEach [] X.env)).any (·.1) || (backToKw pos (keywordEach kws X.env)).any (·.1.isNone)) = false := by rfl)
    (ht : eval (.Call (.Attribute o m apos) [] kws pos) X.env = (do
      let ov ← eval o X.env
      standAt apos.atName
      let (f, first) ← holding [ov] (getMethod ov m pl)
      callWith pos f first (backTo pos (starEach [] X.env)) (backToKw pos (keywordEach kws X.env))) := by rfl) :
    PE X (.Call (.Attribute o m apos) [] kws pos) (tMethK C m ks.length sp gV (fun _ => C8.E0) ta tk) := by
  obtain ⟨f, fd, ps, g, hc, hm, F, b⟩ := c.ex
  exact pe_methK he hc hm F (hr.mono hk) b (fun σ pins H s e s' I c => C8.pass0 (X := X) pins σ H s e s' I c) hkw hall hks hpl ht
theorem pe_mtKN {pl : Sem Bool} (c : MetN X.prog X.w X.K X.mg X.base k C m sp ks gV) (hr : Room j X.A) (hk : k ≤ j) (tk' : L2N.Takes X W) (he : PE X o ta) (hkw : PK X kws tk)
    (hall : (backToKw pos (keywordEach kws X.env)).all (·.1.isSome) = true := by rfl) (hks : (backToKw pos (keywordEach kws X.env)).filterMap (·.1) = ks := by rfl)
    (hpl : ((backTo pos (starEach [] X.env)).any (·.1) || (backToKw pos (keywordEach kws X.env)).any (·.1.isNone)) = false := by rfl)
    (ht : eval (.Call (.Attribute o m apos) [] kws pos) X.env = (do
      let ov ← eval o X.env
      standAt apos.atName
      let (f, first) ← holding [ov] (getMethod ov m pl)
      callWith pos f first (backTo pos (starEach [] X.env)) (backToKw pos (keywordEach kws X.env))) := by rfl) :
    PE X (.Call (.Attribute o m apos) [] kws pos) (tMethK C m ks.length sp gV (WE W) ta tk) := by
  obtain ⟨f, fd, ps, g, hc, hm, F, _, b⟩ := c.ex
  exact pe_methK he hc hm F (hr.mono hk) b (fun σ => L2N.passAt tk' σ) hkw hall hks hpl ht
theorem pe_mtN {pl : Sem Bool} (c : MetN X.prog X.w X.K X.mg X.base k C m sp ks gV) (hr : Room j X.A) (hk : k ≤ j) (tk' : L2N.Takes X W) (he : PE X o ta) (ha : PA X (e :: es) t)
    (hst : starEach (e :: es) X.env = (false, eval e X.env) :: starEach es X.env := by rfl) (hpl : (backTo pos (starEach es X.env)).any (·.1) = false := by rfl)
    (ht : eval (.Call (.Attribute o m apos) (e :: es) [] pos) X.env = (do
      let ov ← eval o X.env
      standAt apos.atName
      let (f, first) ← holding [ov] (getMethod ov m pl)
      callWith pos f first (backTo pos (starEach (e :: es) X.env)) (backToKw pos (keywordEach [] X.env))) := by rfl) :
    PE X (.Call (.Attribute o m apos) (e :: es) [] pos) (tMethE C m sp (WE W) ta t) := by
  obtain ⟨f, fd, ps, g, hc, hm, F, b, _⟩ := c.ex
  exact pe_methE he hc hm F (hr.mono hk) b (fun σ => L2N.passAt tk' σ) ha hst hpl ht
theorem pe_mkK (c : MakK X.prog X.w X.K X.mg X.base k x C sp ks gV) (hr : Room j X.A) (hk : k + 1 ≤ j) (hg : Gl X x) (hkw : PK X kws tk)
    (hall : (backToKw pos (keywordEach kws X.env)).all (·.1.isSome) = true := by rfl) (hks : (backToKw pos (keywordEach kws X.env)).filterMap (·.1) = ks := by rfl) (hdb : (x == ("__debug__" : Str)) = false := by decide)
    (hpl : ((backTo pos (starEach [] X.env)).any (·.1) || (backToKw pos (keywordEach kws X.env)).any (·.1.isNone)) = false := by rfl) :
    PE X (.Call (.Name x p) [] kws pos) (tMakeK C 0 ks.length sp gV C8.E0 tNil tk) := by
  obtain ⟨f, fd, ps, g, M, F, hm, b⟩ := c.ex
  exact pe_makeK0 M F (hr.mono hk) hg hm b C8.pass0 hkw hall hks hdb hpl
end
end Wk
set_option Elab.async false
set_option linter.all false
set_option maxRecDepth 100000
set_option maxHeartbeats 4000000
/-! Wk: defs with keyword-only parameters: their defaults, their names, and what they raise. -/
namespace Wk
open PySem PySem.Spec PyProof.Rows L2
/-- f(e, .., k = v, ..) that may raise -/
def tCallNS (n m : Nat) (sp : Sp) (gV : List V → List V → List V) (E : L2.St → XK) (t tk : TA) : TE := fun σ H Q => t σ H fun vs H1 => tk σ H1 fun zs H2 => vs.length = n ∧ zs.length = m ∧ sp (gV vs zs) H2 Q (E σ)
/-- a def that may raise, called by place and with keywords -/
structure CalKN (P : Program) (w : World) (K : PySem.W.Frag) (mg : Str → Option Value) (base : Heap) (k : Nat) (x : Str) (sp : Sp) (n : Nat) (ks : List Str) (gV : List V → List V → List V) : Prop where
  ex : ∃ (f : Addr) (fd : FuncData) (ps : List Str) (g : List Value → List Value → List Value), FnOk P w K mg base (L2N.CX P w) k f fd ps sp ∧ mg x = some (.ref f) ∧ PySem.W.keepIn K (.ref f) = true ∧ KBn K fd ps n ks g gV
section
variable {X : Cx} {k j n : Nat} {sp : Sp} {x : Str} {p pos : Pos} {e : Expr} {es : List Expr} {kws : List Keyword} {t tk : TA} {ks : List Str} {gV : List V → List V → List V} {W : WX}
theorem pe_ckpN (c : CalKN X.prog X.w X.K X.mg X.base k x sp n ks gV) (hr : Room j X.A) (hk : k ≤ j) (tk' : L2N.Takes X W) (hg : Gl X x) (ha : PA X (e :: es) t) (hkw : PK X kws tk)
    (hall : (backToKw pos (keywordEach kws X.env)).all (·.1.isSome) = true := by rfl) (hks : (backToKw pos (keywordEach kws X.env)).filterMap (·.1) = ks := by rfl)
    (hdb : (x == ("__debug__" : Str)) = false := by decide) (he : starEach (e :: es) X.env = (false, eval e X.env) :: starEach es X.env := by rfl)
    (hpl : ((backTo pos (starEach (e :: es) X.env)).any (·.1) || (backToKw pos (keywordEach kws X.env)).any (·.1.isNone)) = false := by rfl) :
    PE X (.Call (.Name x p) (e :: es) kws pos) (tCallNS n ks.length sp gV (WE W) t tk) := by
  obtain ⟨f, fd, ps, g, F, hm, kp, b⟩ := c.ex
  refine ⟨fun pins s σ H Q I h => ?_⟩
  refine wpAny_Call_Name_kw (ld_glob I hg hm ?_ hdb)
  refine PySem.W.callWith_KW (h₀ := X.base) I.ok.mod.kin kp hall (thn (ha.run pos pins s σ H _ I h) fun us s1 ⟨vs, H1, I1, r, q⟩ => ?_) hpl he
  refine thn (hkw.run pos pins s1 σ H1 _ I1 q) fun ws s2 ⟨zs, H2, I2, rz, l1, l2, q2⟩ => ⟨I2.kIn, ?_⟩
  rw [hks]
  exact run_kwS F (hr.mono hk) b (L2N.passAt tk' σ) I2 r rz l1 l2 q2
end
/-- the keyword-only parameters are all written -/
theorem kbnK {K : PySem.W.Frag} {x qual : Str} {params : Arguments} {body : List Stmt} {scope : Scope} {kwd : List (Str × V)} {f : Addr} {fd : FuncData} {ps ks : List Str} {n : Nat} {g : List Value → List Value → List Value} {gV : List V → List V → List V} (F : FunD K x qual params body scope [] kwd f fd)
    (hrel : ∀ {vs : List V} {us : List Value} {zs : List V} {ws : List Value}, Vals vs us → Vals zs ws → Vals (gV vs zs) (g us ws))
    (h : ∀ (kV doc pm : Value) (an : Option Addr) (cdv ct : Value) (us ws : List Value), us.length = n → ws.length = ks.length → bindArgs (PySem.W.fnOf x qual params body scope .none kV doc pm an cdv ct) ⟨us, ks.zip ws⟩ = pure (ps.zip (g us ws))) : KBn K fd ps n ks g gV := by
  obtain ⟨oc, od, dV, kV, doc, pm, an, cdv, ct, osl, rfl, lk, hcd, hD, hK⟩ := F.ex
  rcases hD with ⟨_, rfl⟩ | ⟨e, _⟩
  · exact ⟨fun s us ws _ l1 l2 => .of_eq (h kV doc pm an cdv ct us ws l1 l2), fun r1 r2 => hrel r1 r2⟩
  · exact absurd rfl e
section
variable {P : Program} {w : World} {K : PySem.W.Frag} {mg : Str → Option Value} {base : Heap}
/-- called by place alone: the keyword-only parameters have their defaults -/
theorem mkD0 {x : Str} {st : Stmt} {N ps : List Str} {kwd : List (Str × V)} {k n : Nat} {sp : Sp} (d : DefKw K mg x st kwd) (S : FnScope N ps (defScope st)) (hk : kwd ≠ []) (hn : n + kwd.length = ps.length)
    (hb : ∀ (D : Addr) (doc pm : Value) (an : Option Addr) (cdv ct : Value) (us ks : List Value), us.length = n → ks.length = kwd.length →
      KwChain D ((kwd.map (·.1)).zip ks) (bindArgs (PySem.W.fnOf x x (defArgs st) (defBody st) (defScope st) .none (.ref D) doc pm an cdv ct) ⟨us, []⟩) (ps.zip (us ++ ks)))
    (len : ∀ vs H Q E, sp vs H Q E → vs.length = ps.length)
    (body : ∀ (f : Addr) (cdv : Value) (A : Around) (outer : List Env) (s : Shared) (H : Hp) (vs : List V) (Q : VK) (E : XK), Room k (A.deeper (envOfC x (defScope st) s.heap.objs.size f cdv)) → sp vs H Q E →
      ∃ t, PSs (cxOf C8.CX0 P w K mg base N x (defScope st) f cdv A outer s H E).nox (defBody st) t ∧ t { nx := fun _ H' => Q .non H', rt := Q } (start N vs) H) : C8.Cal P w K mg base (k + 1) x sp (kwd.map (·.2)) := by
  obtain ⟨f, fd, F, hm⟩ := d
  obtain ⟨ds, r, b⟩ := F.binds0 n hk hn hb
  exact ⟨f, fd, ps, ds, F.ok S len (fun cdv A outer s H vs Q E hr hsp => let ⟨t, h, q⟩ := body f cdv A outer s H vs Q E hr hsp; ⟨t, h.nox, q⟩), hm, F.kp, b, r⟩
/-- called with names for all that is written by name -/
theorem mkKg {x : Str} {st : Stmt} {N ps ks : List Str} {kwd : List (Str × V)} {k n : Nat} {sp : Sp} (d : DefKw K mg x st kwd) (S : FnScope N ps (defScope st)) (g : {α : Type} → List α → List α → List α)
    (hrel : ∀ {vs : List V} {us : List Value} {zs : List V} {ws : List Value}, Vals vs us → Vals zs ws → Vals (g vs zs) (g us ws))
    (hb : ∀ (kV doc pm : Value) (an : Option Addr) (cdv ct : Value) (us ws : List Value), us.length = n → ws.length = ks.length → bindArgs (PySem.W.fnOf x x (defArgs st) (defBody st) (defScope st) .none kV doc pm an cdv ct) ⟨us, ks.zip ws⟩ = pure (ps.zip (g us ws)))
    (len : ∀ vs H Q E, sp vs H Q E → vs.length = ps.length)
    (body : ∀ (f : Addr) (cdv : Value) (A : Around) (outer : List Env) (s : Shared) (H : Hp) (vs : List V) (Q : VK) (E : XK), Room k (A.deeper (envOfC x (defScope st) s.heap.objs.size f cdv)) → sp vs H Q E →
      ∃ t, PSs (cxOf C8.CX0 P w K mg base N x (defScope st) f cdv A outer s H E).nox (defBody st) t ∧ t { nx := fun _ H' => Q .non H', rt := Q } (start N vs) H) : CalK P w K mg base (k + 1) x sp n ks (fun vs zs => g vs zs) := by
  obtain ⟨f, fd, F, hm⟩ := d
  exact ⟨f, fd, ps, fun us ws => g us ws, F.ok S len (fun cdv A outer s H vs Q E hr hsp => let ⟨t, h, q⟩ := body f cdv A outer s H vs Q E hr hsp; ⟨t, h.nox, q⟩), hm, F.kp, kbnK F hrel hb⟩
end
theorem hd_cons1 {c : Cell} {o : HO} {H : Hp} {L : List Cell} (h : Hd H L) (e : H c.1 = some o) (q : c.2 o) (n : ∀ d ∈ L, d.1 ≠ c.1) : Hd H (c :: L) := ⟨List.nodup_cons.mpr ⟨fun z => by
  obtain ⟨d, hd, e⟩ := List.mem_map.mp z
  exact n d hd e, h.nd⟩, fun d hd => by
  rcases List.mem_cons.mp hd with rfl | hd
  · exact ⟨o, e, q⟩
  · exact h.at_ d hd⟩
/-! ### steps -/
section
variable {K : PySem.W.Frag} {σ : L2.St} {H : Hp} {Q : VK} {L M : List Cell} {p : Addr} {xs : List V}
theorem w_callNS {n m : Nat} {sp : Sp} {gV : List V → List V → List V} {E : L2.St → XK} {t tk : TA} (h : t σ H fun vs H1 => tk σ H1 fun zs H2 => vs.length = n ∧ zs.length = m ∧ sp (gV vs zs) H2 Q (E σ)) : tCallNS n m sp gV E t tk σ H Q := h
theorem w_callS {sp : Sp} {E : L2.St → XK} {t : TA} (h : t σ H fun vs H1 => sp vs H1 Q (E σ)) : tCallS sp E t σ H Q := h
theorem g_clear (hh : Hd H L) (k : Pk L (lstC p xs) M) (q : ∀ H2, Hd H2 (lstC p [] :: M) → Q .non H2) : rClear (.ref p) [] H Q := ⟨p, xs, rfl, rfl, (hh.pk k).lst (List.mem_cons_self ..), q _ (hh.chgL k Chg.of)⟩
end
end Wk
set_option Elab.async false
set_option linter.all false
set_option maxRecDepth 100000
set_option maxHeartbeats 4000000
/-! Wk: comprehensions with a test, over enumerate; cells that are told by a list. -/
namespace Wk
open PySem PySem.Spec PyProof.Rows L2
/-! ### comprehensions -/
def KLcE (K : PySem.W.Frag) (g : TG) (tt : TT) (te : TE) (us : List Nat) (σ : L2.St) (Q : VK) (vs : List V) (H : Hp) : Prop := ∃ a xs, vs = [.ref a] ∧ SqL K H a xs ∧ KLc (Ite K a) g tt te us σ H Q
section
variable {K : PySem.W.Frag} {σ : L2.St} {H : Hp} {Q : VK} {L : List Cell} {te tl : TE} {ta : TA} {tt : TT} {g : TG} {us : List Nat} {n m : Nat} {j : Int} {a : Addr} {xs : List V}
theorem w_lcE (h : ta σ H fun vs H1 => KLcE K g tt te us σ Q vs H1) : tLc (iEnum K ta) g tt te us σ H Q := h
theorem set2_none {n m : Nat} {x y : Option V} (h : n ≠ m) : ((((((σ.set m none).set n none).set n x).set m y).set m none).set n none) = (σ.set m none).set n none := by
  refine List.ext_getElem? fun k => ?_
  simp only [List.getElem?_set, List.length_set]
  split <;> split <;> simp_all
/-- [e for i, x in enumerate(xs) if t] -/
theorem lc_E (hnm : n ≠ m) (h : SqL K H a xs) (Pv : Nat → Addr → Hp → Prop) (h0 : ∀ D H1, New H H1 D (.lst []) → Pv 0 D H1) (hl : ∀ i D H, i ≤ xs.length → Pv i D H → SqL K H a xs)
    (hs : ∀ (i : Nat) x D H H', xs[i]? = some x → Pv i D H → Upt [] H H' → tt ((((σ.set m none).set n none).set n (some (.int (i : Int)))).set m (some x)) H' fun b H3 =>
      if b = true then te ((((σ.set m none).set n none).set n (some (.int (i : Int)))).set m (some x)) H3 (KApp D (Pv (i + 1) D)) else Pv (i + 1) D H3)
    (hd : ∀ D H, Pv xs.length D H → Q (.ref D) H) : KLcE K (gTup K 2 (gCons (gName n) (gCons (gName m) gNil))) tt te [n, m] σ Q [.ref a] H := by
  refine ⟨a, xs, rfl, h, fun D hD => ?_⟩
  refine lc_it walk_enum (fun i H => Pv i D H) (h0 D _ (New.of hD)) (fun i H hi p => hl i D H hi p) (fun i x H H' hi p y => ?_) fun H p => hd D H p
  obtain ⟨T, u, v, rfl, hT, rfl, hu, hv⟩ := y
  cases hu
  have nw := New.of (H := H) (o := HO.tup [V.int (i : Int), v]) hT
  refine w_gtup (SqT.of nw.at_) rfl ?_
  refine w_gcons (w_gname (w_gcons (w_gname (w_gnil ⟨?_, ?_⟩))))
  · exact set2_none hnm
  · exact hs i v D H _ hv p nw.keep
/-- [e for k in range(m) if t] -/
theorem lc_RF (hj : j = (m : Int)) (hb : m ≤ 1000000) (Pv : Nat → Addr → Hp → Prop) (h0 : ∀ D H1, New H H1 D (.lst []) → Pv 0 D H1)
    (hs : ∀ (i : Nat) D H, i < m → Pv i D H → tt ((σ.set n none).set n (some (.int (i : Int)))) H fun b H3 => if b = true then te ((σ.set n none).set n (some (.int (i : Int)))) H3 (KApp D (Pv (i + 1) D)) else Pv (i + 1) D H3)
    (hd : ∀ D H, Pv m D H → Q (.ref D) H) : KLcR (gName n) tt te [n] σ Q [.int j] H := by
  subst hj
  refine ⟨(m : Int), rfl, by omega, by omega, fun D hD => ?_⟩
  rw [show ((m : Int)).toNat = m by simp]
  refine lc_it (walk_range (lo := 0) (n := m)) (fun i H => Pv i D H) (h0 D _ (New.of hD)) (fun _ _ _ _ => trivial) (fun i x H H' hi p y => ?_) fun H p => hd D H p
  obtain ⟨rfl, rfl⟩ := y
  simp only [Int.zero_add]
  refine w_gname ⟨?_, hs i D _ hi p⟩
  show List.set (List.set (List.set σ n none) n (some (V.int (i : Int)))) n none = List.set σ n none
  simp
/-- [e for x in xs if t] -/
theorem lc_LF (h : SqL K H a xs) (Pv : Nat → Addr → Hp → Prop) (h0 : ∀ D H1, New H H1 D (.lst []) → Pv 0 D H1) (hl : ∀ i D H, i ≤ xs.length → Pv i D H → SqL K H a xs)
    (hs : ∀ (i : Nat) x D H, xs[i]? = some x → Pv i D H → tt ((σ.set n none).set n (some x)) H fun b H3 => if b = true then te ((σ.set n none).set n (some x)) H3 (KApp D (Pv (i + 1) D)) else Pv (i + 1) D H3)
    (hd : ∀ D H, Pv xs.length D H → Q (.ref D) H) : KLcL K (gName n) tt te [n] σ Q (.ref a) H := by
  refine ⟨a, rfl, ⟨xs, h⟩, fun D hD => ?_⟩
  refine lc_it walk_list (fun i H => Pv i D H) (h0 D _ (New.of hD)) (fun i H hi p => hl i D H hi p) (fun i x H H' hi p y => ?_) fun H p => hd D H p
  obtain ⟨rfl, hx⟩ := y
  refine w_gname ⟨?_, hs i x D _ hx p⟩
  show List.set (List.set (List.set σ n none) n (some x)) n none = List.set σ n none
  simp
theorem g_lcE (hh : Hd H L) (hnm : n ≠ m) (h : SqL K H a xs) (Pv : Nat → Addr → Hp → Prop) (h0 : ∀ D H1, Hd H1 (lstC D [] :: L) → Pv 0 D H1) (hl : ∀ i D H, i ≤ xs.length → Pv i D H → SqL K H a xs)
    (hs : ∀ (i : Nat) x D H H', xs[i]? = some x → Pv i D H → Upt [] H H' → tt ((((σ.set m none).set n none).set n (some (.int (i : Int)))).set m (some x)) H' fun b H3 =>
      if b = true then te ((((σ.set m none).set n none).set n (some (.int (i : Int)))).set m (some x)) H3 (KApp D (Pv (i + 1) D)) else Pv (i + 1) D H3)
    (hd : ∀ D H, Pv xs.length D H → Q (.ref D) H) : KLcE K (gTup K 2 (gCons (gName n) (gCons (gName m) gNil))) tt te [n, m] σ Q [.ref a] H := lc_E hnm h Pv (fun D H1 nn => h0 D H1 (hh.newL nn)) hl hs hd
theorem g_lcRF (hh : Hd H L) (hj : j = (m : Int)) (hb : m ≤ 1000000) (Pv : Nat → Addr → Hp → Prop) (h0 : ∀ D H1, Hd H1 (lstC D [] :: L) → Pv 0 D H1)
    (hs : ∀ (i : Nat) D H, i < m → Pv i D H → tt ((σ.set n none).set n (some (.int (i : Int)))) H fun b H3 => if b = true then te ((σ.set n none).set n (some (.int (i : Int)))) H3 (KApp D (Pv (i + 1) D)) else Pv (i + 1) D H3)
    (hd : ∀ D H, Pv m D H → Q (.ref D) H) : KLcR (gName n) tt te [n] σ Q [.int j] H := lc_RF hj hb Pv (fun D H1 nn => h0 D H1 (hh.newL nn)) hs hd
theorem g_lcLF (hh : Hd H L) (h : SqL K H a xs) (Pv : Nat → Addr → Hp → Prop) (h0 : ∀ D H1, Hd H1 (lstC D [] :: L) → Pv 0 D H1) (hl : ∀ i D H, i ≤ xs.length → Pv i D H → SqL K H a xs)
    (hs : ∀ (i : Nat) x D H, xs[i]? = some x → Pv i D H → tt ((σ.set n none).set n (some x)) H fun b H3 => if b = true then te ((σ.set n none).set n (some x)) H3 (KApp D (Pv (i + 1) D)) else Pv (i + 1) D H3)
    (hd : ∀ D H, Pv xs.length D H → Q (.ref D) H) : KLcL K (gName n) tt te [n] σ Q (.ref a) H := lc_LF h Pv (fun D H1 nn => h0 D H1 (hh.newL nn)) hl hs hd
end
/-! ### cells that are told by a list -/
theorem Hd.subl {H : Hp} {L A : List Cell} (h : Hd H L) (s : List.Sublist A L) : Hd H A := ⟨(s.map Prod.fst).nodup h.nd, fun c hc => h.at_ c (s.subset hc)⟩
/-- the page of a slot: its list's place and its words -/
abbrev Pg := Option (Addr × List Int)
def pgV : Pg → V
  | none => .non
  | some p => .ref p.1
def pgK : Pg → List Cell
  | none => []
  | some p => [lstC p.1 (p.2.map V.int)]
def pgC (ps : List Pg) : List Cell := ps.flatMap pgK
theorem pgC_perm : ∀ {ps : List Pg} {i : Nat} (p : Pg), i < ps.length → (pgC (ps.set i p)).Perm (pgK p ++ pgC (ps.set i none))
  | q :: ps, 0, p, _ => by
    show (pgK p ++ pgC ps).Perm (pgK p ++ ([] ++ pgC ps))
    exact List.Perm.refl _
  | q :: ps, i + 1, p, h => by
    have ih := pgC_perm (ps := ps) (i := i) p (by simpa using h)
    show (pgK q ++ pgC (ps.set i p)).Perm (pgK p ++ (pgK q ++ pgC (ps.set i none)))
    refine (List.Perm.append_left _ ih).trans ?_
    rw [← List.append_assoc, ← List.append_assoc]
    exact List.Perm.append_right _ List.perm_append_comm
theorem pgC_none : ∀ {ps : List Pg} {i : Nat}, List.Sublist (pgC (ps.set i none)) (pgC ps)
  | [], _ => List.Sublist.refl _
  | q :: ps, 0 => List.sublist_append_right (pgK q) (pgC ps)
  | q :: ps, i + 1 => by
    show List.Sublist (pgK q ++ pgC (ps.set i none)) (pgK q ++ pgC ps)
    exact List.Sublist.append (List.Sublist.refl _) pgC_none
theorem pgC_mem {ps : List Pg} {i : Nat} {a : Addr} {ws : List Int} (h : ps[i]? = some (some (a, ws))) : lstC a (ws.map V.int) ∈ pgC ps :=
  List.mem_flatMap.mpr ⟨some (a, ws), List.mem_of_getElem? h, List.mem_singleton.mpr rfl⟩
section
variable {H H' : Hp} {L R : List Cell} {ps : List Pg} {i : Nat} {a : Addr} {ws vs : List Int}
/-- a new page stands in slot i -/
theorem Hd.pgNew (h : Hd H (lstC a (ws.map V.int) :: (pgC ps ++ R))) (hi : i < ps.length) : Hd H (pgC (ps.set i (some (a, ws))) ++ R) := by
  refine Hd.perm (Hd.subl h (List.Sublist.cons₂ _ (List.Sublist.append (pgC_none (i := i)) (List.Sublist.refl R)))) ?_
  exact ((pgC_perm (some (a, ws)) hi).append_right R).symm
/-- the page of slot i, by itself -/
theorem Hd.pgGet (h : Hd H (pgC ps ++ R)) (hp : ps[i]? = some (some (a, ws))) : Hd H (lstC a (ws.map V.int) :: (pgC (ps.set i none) ++ R)) := by
  have hi := (List.getElem?_eq_some_iff.mp hp).1
  have e : ps.set i (some (a, ws)) = ps := by
    obtain ⟨_, e⟩ := List.getElem?_eq_some_iff.mp hp
    rw [← e, List.set_getElem_self]
  have h2 : Hd H (pgC (ps.set i (some (a, ws))) ++ R) := by rw [e]; exact h
  exact Hd.perm h2 ((pgC_perm (some (a, ws)) hi).append_right R)
theorem Hd.pgPut (h : Hd H (lstC a (ws.map V.int) :: (pgC (ps.set i none) ++ R))) (hi : i < ps.length) : Hd H (pgC (ps.set i (some (a, ws))) ++ R) :=
  Hd.perm h ((pgC_perm (some (a, ws)) hi).append_right R).symm
end
end Wk
set_option Elab.async false
set_option linter.all false
set_option maxRecDepth 100000
set_option maxHeartbeats 4000000
/-! Wk: isinstance(e, (A, B, ..)) of a handled error. -/
namespace Wk
open PySem PySem.Spec PyProof.Rows L2
/-- isinstance(e, t), e the pinned error of the class D with its dict at dd, t a tuple of own classes -/
def rIsPT (K : PySem.W.Frag) (D a dd : Addr) : List V → Hp → VK → Prop := fun xs H Q =>
  ∃ (p : Addr) (cs : List Addr) (b : Bool) (fs : List (Str × V)), xs = [.ref a, .ref p] ∧ SqT K H p (cs.map V.ref) ∧ PySem.W.kitAny K (.ref D) (cs.map Value.ref) = some b ∧ H dd = some (.xd fs) ∧ Q (.bl b) H
theorem vals_refs : ∀ {cs : List Addr} {us : List Value}, Vals (cs.map V.ref) us → us = cs.map Value.ref
  | [], _, .nil => rfl
  | c :: cs, _, .cons (b := u) r t => by
    obtain rfl : u = Value.ref c := r
    rw [vals_refs t]
    rfl
theorem call_isPT {X : Cx} {a D dd : Addr} {oe : Obj} (C : ExcC X.K D) (hp : (a, oe) ∈ X.pn) (hz : L2.Zc (.ref D) (some dd) oe) (hf : ∃ vs, oe.data = .fields vs) : CallR X (.builtin "isinstance") (rIsPT X.K D a dd) := by
  intro pins s σ H xs us Q I r h
  obtain ⟨p, cs, b, fs, rfl, hq, e, hd, q⟩ := h
  cases r with
  | cons rx rr =>
    cases rr with
    | cons rt rr =>
      cases rr
      cases rx
      cases rt
      obtain ⟨its, rv, ht, _⟩ := I.tuple hq
      obtain ⟨ot, hot, hct, n, hdt⟩ := _root_.id ht
      obtain rfl := vals_refs rv
      obtain ⟨hget, _⟩ := I.pin (a, oe) (List.mem_append_left _ hp)
      obtain ⟨vs, hv⟩ := hf
      have ho : ObjOk X.prog X.w H s.heap dd (.xd fs) := I.hok dd _ hd
      obtain ⟨od, hod⟩ := objOk_get ho
      have J : PySem.W.InstAt s.heap a oe D (some od) := ⟨hget, hz.1, by unfold PySem.W.notCls; rw [hv] <;> rfl, by rw [hz.2]; exact hod⟩
      have hcl : (PySem.W.clsIn X.K D).isSome = true := by
        obtain ⟨cd, hc, _⟩ := PySem.W.any_some C.hd
        rw [hc]
        rfl
      obtain ⟨oc, od', odata, osl⟩ := ot
      cases hct
      cases hdt
      exact PySem.W.kia_tup (PySem.W.kitx_exc hcl C.hg C.hk C.hs C.ha C.hn C.ht C.hm) I.kIn J hot e (fun z => nomatch z) fun tk => ⟨.bl b, H, I.kept (t' := tk) fun _ _ z => z, rfl, q⟩
theorem c_isPT {K : PySem.W.Frag} {D a dd p : Addr} {fs : List (Str × V)} {cs : List Addr} {b : Bool} {H : Hp} {Q : VK} (hd : H dd = some (.xd fs)) (hq : SqT K H p (cs.map V.ref)) (e : PySem.W.kitAny K (.ref D) (cs.map Value.ref) = some b) (q : Q (.bl b) H) : CB (rIsPT K D a dd) [.ref a, .ref p] H Q :=
  ⟨p, cs, b, fs, rfl, hq, e, hd, q⟩
end Wk
set_option Elab.async false
set_option linter.all false
set_option maxRecDepth 100000
set_option maxHeartbeats 4000000
/-! Wk: a def that may raise, called by keywords alone. -/
namespace Wk
open PySem PySem.Spec PyProof.Rows L2
def tCallKS (m : Nat) (sp : Sp) (gV : List V → List V → List V) (E : L2.St → XK) (tk : TA) : TE := fun σ H Q => tk σ H fun zs H2 => zs.length = m ∧ sp (gV [] zs) H2 Q (E σ)
section
variable {X : Cx} {k j : Nat} {sp : Sp} {x : Str} {p pos : Pos} {kws : List Keyword} {tk : TA} {ks : List Str} {gV : List V → List V → List V} {W : WX}
theorem pe_ckN (c : CalKN X.prog X.w X.K X.mg X.base k x sp 0 ks gV) (hr : Room j X.A) (hk : k ≤ j) (tk' : L2N.Takes X W) (hg : Gl X x) (hkw : PK X kws tk)
    (hall : (backToKw pos (keywordEach kws X.env)).all (·.1.isSome) = true := by rfl) (hks : (backToKw pos (keywordEach kws X.env)).filterMap (·.1) = ks := by rfl)
    (hdb : (x == ("__debug__" : Str)) = false := by decide)
    (hpl : ((backTo pos (starEach [] X.env)).any (·.1) || (backToKw pos (keywordEach kws X.env)).any (·.1.isNone)) = false := by rfl) :
    PE X (.Call (.Name x p) [] kws pos) (tCallKS ks.length sp gV (WE W) tk) := by
  obtain ⟨f, fd, ps, g, F, hm, kp, b⟩ := c.ex
  refine ⟨fun pins s σ H Q I h => ?_⟩
  refine wpAny_Call_Name_kw (ld_glob I hg hm ?_ hdb)
  refine PySem.W.callWith_KW0 (h₀ := X.base) I.ok.mod.kin kp hall ?_ hpl
  refine thn (hkw.run pos pins s σ H _ I h) fun ws s2 ⟨zs, H2, I2, rz, l2, q2⟩ => ⟨I2.kIn, ?_⟩
  rw [hks]
  exact run_kwS F (hr.mono hk) b (L2N.passAt tk' σ) I2 .nil rz rfl l2 q2
end
end Wk
set_option Elab.async false
set_option linter.all false
set_option maxRecDepth 100000
set_option maxHeartbeats 4000000
namespace K46
open PySem PySem.Spec PyProof.Rows L2 Wk
def top (i : Nat) : Stmt := PySem.Challenge.pw_wardwork_k46_packed_letters.main.body.getD i (.Pass ⟨0, 0, 0, 0⟩)
/-- what the top leaves that the defs lean on -/
structure Txt (K : PySem.W.Frag) (mg : Str → Option Value) (aREG aOPS : Addr) : Prop extends Bt mg where
  g_WORDS : ∃ u, mg "WORDS" = some u ∧ RelV (.int 65536) u
abbrev FunT (K : PySem.W.Frag) (x : Str) (st : Stmt) (f : Addr) (fd : FuncData) : Prop := FunD K x x (defArgs st) (defBody st) (defScope st) [] [] f fd
/-- a def of the module that stands under its name -/
def DefAt (K : PySem.W.Frag) (mg : Str → Option Value) (x : Str) (st : Stmt) : Prop := ∃ f fd, FunT K x st f fd ∧ mg x = some (.ref f)
/-- the same, with its code object -/
def DefAtC (K : PySem.W.Frag) (mg : Str → Option Value) (x : Str) (st : Stmt) (c : Addr) : Prop := ∃ f fd, (FunT K x st f fd ∧ fd.code = .ref c) ∧ mg x = some (.ref f)
section
variable {P : Program} {w : World} {K : PySem.W.Frag} {mg : Str → Option Value} {base : Heap} {aREG aOPS : Addr}
theorem mk {x : Str} {st : Stmt} {N ps : List Str} {k : Nat} {sp : Sp} (d : DefAt K mg x st) (S : FnScope N ps (defScope st))
    (hb : ∀ (kV doc pm : Value) (an : Option Addr) (cdv ct : Value) (us : List Value), us.length = ps.length → bindArgs (PySem.W.fnOf x x (defArgs st) (defBody st) (defScope st) .none kV doc pm an cdv ct) ⟨us, []⟩ = pure (ps.zip us))
    (len : ∀ vs H Q E, sp vs H Q E → vs.length = ps.length)
    (body : ∀ (f : Addr) (cdv : Value) (A : Around) (outer : List Env) (s : Shared) (H : Hp) (vs : List V) (Q : VK) (E : XK), Room k (A.deeper (envOfC x (defScope st) s.heap.objs.size f cdv)) → sp vs H Q E →
      ∃ t, PSs (cxOf CX0 P w K mg base N x (defScope st) f cdv A outer s H E).nox (defBody st) t ∧ t { nx := fun _ H' => Q .non H', rt := Q } (start N vs) H) : C8.Cal P w K mg base (k + 1) x sp [] := by
  obtain ⟨f, fd, F, hm⟩ := d
  refine ⟨f, fd, ps, [], F.ok S len (fun cdv A outer s H vs Q E hr hsp => ?_), hm, F.kp, F.bindsN hb, .nil⟩
  obtain ⟨t, h, q⟩ := body f cdv A outer s H vs Q E hr hsp
  exact ⟨t, h.nox, q⟩
theorem mkC {x : Str} {st : Stmt} {c : Addr} {N ps : List Str} {k : Nat} {sp : Sp} (d : DefAtC K mg x st c) (S : FnScope N ps (defScope st))
    (hb : ∀ (kV doc pm : Value) (an : Option Addr) (cdv ct : Value) (us : List Value), us.length = ps.length → bindArgs (PySem.W.fnOf x x (defArgs st) (defBody st) (defScope st) .none kV doc pm an cdv ct) ⟨us, []⟩ = pure (ps.zip us))
    (len : ∀ vs H Q E, sp vs H Q E → vs.length = ps.length)
    (body : ∀ (f : Addr) (A : Around) (outer : List Env) (s : Shared) (H : Hp) (vs : List V) (Q : VK) (E : XK), Room k (A.deeper (envOfC x (defScope st) s.heap.objs.size f (.ref c))) → sp vs H Q E →
      ∃ t, PSs (cxOf CX0 P w K mg base N x (defScope st) f (.ref c) A outer s H E).nox (defBody st) t ∧ t { nx := fun _ H' => Q .non H', rt := Q } (start N vs) H) : C8.Cal P w K mg base (k + 1) x sp [] := by
  obtain ⟨f, fd, ⟨F, hc⟩, hm⟩ := d
  refine ⟨f, fd, ps, [], ?_, hm, F.kp, F.bindsN hb, .nil⟩
  obtain ⟨oc, od, dV, kV, doc, pm, an, cdv, ct, osl, rfl, lk, hcd, _, _⟩ := F.ex
  cases (show cdv = .ref c from hc)
  exact fn_of lk hcd S len fun A outer s H vs Q E hr hsp => let ⟨t, h, q⟩ := body f A outer s H vs Q E hr hsp; ⟨t, h.nox, q⟩
theorem mkF {x : Str} {st : Stmt} {N ps : List Str} {k : Nat} {sp : Sp} {f : Addr} {fd : FuncData} (F : FunT K x st f fd) (S : FnScope N ps (defScope st))
    (len : ∀ vs H Q E, sp vs H Q E → vs.length = ps.length)
    (body : ∀ (f : Addr) (cdv : Value) (A : Around) (outer : List Env) (s : Shared) (H : Hp) (vs : List V) (Q : VK) (E : XK), Room k (A.deeper (envOfC x (defScope st) s.heap.objs.size f cdv)) → sp vs H Q E →
      ∃ t, PSs (cxOf CX0 P w K mg base N x (defScope st) f cdv A outer s H E).nox (defBody st) t ∧ t { nx := fun _ H' => Q .non H', rt := Q } (start N vs) H) : FnOk P w K mg base CX0 (k + 1) f fd ps sp :=
  F.ok S len fun cdv A outer s H vs Q E hr hsp => let ⟨t, h, q⟩ := body f cdv A outer s H vs Q E hr hsp; ⟨t, h.nox, q⟩
abbrev s__law_mixed : Stmt := top 23
abbrev nm__law_mixed : List Str := ["number", "turn", "many", "first", "second", "third"]
theorem sc__law_mixed : FnScope nm__law_mixed ["number", "turn", "many"] (defScope s__law_mixed) := ⟨rfl, rfl, rfl, by decide +kernel, rfl, by decide +kernel, by decide +kernel⟩
abbrev s__law_store : Stmt := top 24
abbrev nm__law_store : List Str := ["script", "salt", "seed", "cell"]
theorem sc__law_store : FnScope nm__law_store ["script", "salt"] (defScope s__law_store) := ⟨rfl, rfl, rfl, by decide +kernel, rfl, by decide +kernel, by decide +kernel⟩
abbrev s__law_take : Stmt := top 25
abbrev nm__law_take : List Str := ["store", "many", "cell", "digit"]
theorem sc__law_take : FnScope nm__law_take ["store", "many"] (defScope s__law_take) := ⟨rfl, rfl, rfl, by decide +kernel, rfl, by decide +kernel, by decide +kernel⟩
abbrev s__law_pick : Stmt := top 26
abbrev nm__law_pick : List Str := ["store", "row"]
theorem sc__law_pick : FnScope nm__law_pick ["store", "row"] (defScope s__law_pick) := ⟨rfl, rfl, rfl, by decide +kernel, rfl, by decide +kernel, by decide +kernel⟩
abbrev s__law_between : Stmt := top 27
abbrev nm__law_between : List Str := ["store", "low", "high", "many", "way"]
theorem sc__law_between : FnScope nm__law_between ["store", "low", "high"] (defScope s__law_between) := ⟨rfl, rfl, rfl, by decide +kernel, rfl, by decide +kernel, by decide +kernel⟩
abbrev s__law_size : Stmt := top 28
abbrev nm__law_size : List Str := ["store", "most", "way"]
theorem sc__law_size : FnScope nm__law_size ["store", "most"] (defScope s__law_size) := ⟨rfl, rfl, rfl, by decide +kernel, rfl, by decide +kernel, by decide +kernel⟩
abbrev s__law_word : Stmt := top 29
abbrev nm__law_word : List Str := ["store", "way"]
theorem sc__law_word : FnScope nm__law_word ["store"] (defScope s__law_word) := ⟨rfl, rfl, rfl, by decide +kernel, rfl, by decide +kernel, by decide +kernel⟩
abbrev s__law_alike : Stmt := top 33
abbrev nm__law_alike : List Str := ["one", "two", "k"]
theorem sc__law_alike : FnScope nm__law_alike ["one", "two"] (defScope s__law_alike) := ⟨rfl, rfl, rfl, by decide +kernel, rfl, by decide +kernel, by decide +kernel⟩
abbrev s__law_copy : Stmt := top 34
abbrev nm__law_copy : List Str := ["value", "x"]
theorem sc__law_copy : FnScope nm__law_copy ["value"] (defScope s__law_copy) := ⟨rfl, rfl, rfl, by decide +kernel, rfl, by decide +kernel, by decide +kernel⟩
abbrev s_is_integer : Stmt := top 13
abbrev nm_is_integer : List Str := ["x"]
theorem sc_is_integer : FnScope nm_is_integer ["x"] (defScope s_is_integer) := ⟨rfl, rfl, rfl, by decide +kernel, rfl, by decide +kernel, by decide +kernel⟩
abbrev s_is_in_range : Stmt := top 14
abbrev nm_is_in_range : List Str := ["x", "least", "most"]
theorem sc_is_in_range : FnScope nm_is_in_range ["x", "least", "most"] (defScope s_is_in_range) := ⟨rfl, rfl, rfl, by decide +kernel, rfl, by decide +kernel, by decide +kernel⟩
abbrev s_is_word : Stmt := top 15
abbrev nm_is_word : List Str := ["x"]
theorem sc_is_word : FnScope nm_is_word ["x"] (defScope s_is_word) := ⟨rfl, rfl, rfl, by decide +kernel, rfl, by decide +kernel, by decide +kernel⟩
abbrev s_are_words : Stmt := top 16
abbrev nm_are_words : List Str := ["parts"]
theorem sc_are_words : FnScope nm_are_words ["parts"] (defScope s_are_words) := ⟨rfl, rfl, rfl, by decide +kernel, rfl, by decide +kernel, by decide +kernel⟩
abbrev s__law_words : Stmt := top 30
abbrev nm__law_words : List Str := ["store", "count", "way", "k"]
theorem sc__law_words : FnScope nm__law_words ["store", "count"] (defScope s__law_words) := ⟨rfl, rfl, rfl, by decide +kernel, rfl, by decide +kernel, by decide +kernel⟩
abbrev s_is_list_of_words : Stmt := top 17
abbrev nm_is_list_of_words : List Str := ["x", "least", "most"]
theorem sc_is_list_of_words : FnScope nm_is_list_of_words ["x", "least", "most"] (defScope s_is_list_of_words) := ⟨rfl, rfl, rfl, by decide +kernel, rfl, by decide +kernel, by decide +kernel⟩
abbrev s_ask_words : Stmt := top 18
abbrev nm_ask_words : List Str := ["name", "words", "least", "most"]
theorem sc_ask_words : FnScope nm_ask_words ["name", "words", "least", "most"] (defScope s_ask_words) := ⟨rfl, rfl, rfl, by decide +kernel, rfl, by decide +kernel, by decide +kernel⟩
abbrev s_pack_letter : Stmt := top 20
abbrev nm_pack_letter : List Str := ["letter"]
theorem sc_pack_letter : FnScope nm_pack_letter ["letter"] (defScope s_pack_letter) := ⟨rfl, rfl, rfl, by decide +kernel, rfl, by decide +kernel, by decide +kernel⟩
abbrev s_unpack_letters : Stmt := top 21
abbrev nm_unpack_letters : List Str := ["words", "letters", "at", "length", "end"]
theorem sc_unpack_letters : FnScope nm_unpack_letters ["words"] (defScope s_unpack_letters) := ⟨rfl, rfl, rfl, by decide +kernel, rfl, by decide +kernel, by decide +kernel⟩
abbrev s_BadArgument____init__ : Stmt := inClass (top 3) 0
abbrev nm_BadArgument____init__ : List Str := ["self", "name"]
theorem sc_BadArgument____init__ : FnScope nm_BadArgument____init__ ["self", "name"] (defScope s_BadArgument____init__) := ⟨rfl, rfl, rfl, by decide +kernel, rfl, by decide +kernel, by decide +kernel⟩
abbrev s__law_refusal : Stmt := top 37
abbrev nm__law_refusal : List Str := ["e", "rows"]
theorem sc__law_refusal : FnScope nm__law_refusal ["e"] (defScope s__law_refusal) := ⟨rfl, rfl, rfl, by decide +kernel, rfl, by decide +kernel, by decide +kernel⟩
abbrev s__law_called : Stmt := top 38
abbrev nm__law_called : List Str := ["name", "value", "named", "handed", "answer", "e"]
theorem sc__law_called : FnScope nm__law_called ["name", "value", "named"] (defScope s__law_called) := ⟨rfl, rfl, rfl, by decide +kernel, rfl, by decide +kernel, by decide +kernel⟩
abbrev s__law_wrong_integer : Stmt := top 31
abbrev nm__law_wrong_integer : List Str := ["store", "low", "high", "near", "others"]
theorem sc__law_wrong_integer : FnScope nm__law_wrong_integer ["store", "low", "high"] (defScope s__law_wrong_integer) := ⟨rfl, rfl, rfl, by decide +kernel, rfl, by decide +kernel, by decide +kernel⟩
abbrev s__law_wrong_words : Stmt := top 32
abbrev nm__law_wrong_words : List Str := ["store", "words", "most", "tuples", "way", "rows", "wrong"]
theorem sc__law_wrong_words : FnScope nm__law_wrong_words ["store", "words", "most", "tuples"] (defScope s__law_wrong_words) := ⟨rfl, rfl, rfl, by decide +kernel, rfl, by decide +kernel, by decide +kernel⟩
abbrev s__law_letter : Stmt := top 35
abbrev nm__law_letter : List Str := ["store"]
theorem sc__law_letter : FnScope nm__law_letter ["store"] (defScope s__law_letter) := ⟨rfl, rfl, rfl, by decide +kernel, rfl, by decide +kernel, by decide +kernel⟩
abbrev s__law_wrong_letter : Stmt := top 36
abbrev nm__law_wrong_letter : List Str := ["store"]
theorem sc__law_wrong_letter : FnScope nm__law_wrong_letter ["store"] (defScope s__law_wrong_letter) := ⟨rfl, rfl, rfl, by decide +kernel, rfl, by decide +kernel, by decide +kernel⟩
abbrev s__law_joined : Stmt := top 39
abbrev nm__law_joined : List Str := ["letters", "starts", "words", "early", "letter", "kept", "told"]
theorem sc__law_joined : FnScope nm__law_joined ["letters"] (defScope s__law_joined) := ⟨rfl, rfl, rfl, by decide +kernel, rfl, by decide +kernel, by decide +kernel⟩
abbrev s__law_cut_right : Stmt := top 40
abbrev nm__law_cut_right : List Str := ["letters", "starts", "words", "place", "whole", "due", "early", "k", "kept", "told", "row", "x"]
theorem sc__law_cut_right : FnScope nm__law_cut_right ["letters", "starts", "words", "place"] (defScope s__law_cut_right) := ⟨rfl, rfl, rfl, by decide +kernel, rfl, by decide +kernel, by decide +kernel⟩
abbrev s__law_spoilt : Stmt := top 41
abbrev nm__law_spoilt : List Str := ["store", "starts", "words", "way", "place", "length"]
theorem sc__law_spoilt : FnScope nm__law_spoilt ["store", "starts", "words"] (defScope s__law_spoilt) := ⟨rfl, rfl, rfl, by decide +kernel, rfl, by decide +kernel, by decide +kernel⟩
abbrev s_law : Stmt := top 42
abbrev nm_law : List Str := ["script", "store", "letters", "joined", "starts", "words", "places", "place", "more", "due", "spoilt", "wrong", "k"]
theorem sc_law : FnScope nm_law ["script"] (defScope s_law) := ⟨rfl, rfl, rfl, by decide +kernel, rfl, by decide +kernel, by decide +kernel⟩
end
end K46
namespace K46
open PySem PySem.Spec PyProof.Rows L2 Wk
/-! ### the head -/
/-! ### what is looked at: the module's names and the interpreter's own statics -/
def obsA (as : List Addr) (fa : List He.Fa) (fn : List He.DefD) (tf : List He.Defn) (ex : PySem.W.Frag → Bool) (g : Addr → Option Obj) : He.AlX := (He.obsT fa fn [] (He.frT g as), ex (He.frT g as) && He.tabsB g tf (He.frT g as))
theorem saysA {as : List Addr} {fa : List He.Fa} {fn : List He.DefD} {tf : List He.Defn} {ex : PySem.W.Frag → Bool} {w : World} {h : Heap} (e : obsA as fa fn tf ex h.get? = He.valX fn [] w) : He.SaysX fa fn [] tf ex w h (He.frT h.get? as) := by
  have e1 : He.obsT fa fn [] (He.frT h.get? as) = He.valT fn [] w := congrArg (fun z : He.AlX => z.1) e
  have e2 : (ex (He.frT h.get? as) && He.tabsB h.get? tf (He.frT h.get? as)) = true := congrArg (fun z : He.AlX => z.2) e
  obtain ⟨h1, h2⟩ := He.ba e2
  have tb : ∀ p ∈ tf, PySem.W.codeHdIn (He.frT h.get? as) (He.cT (He.frT h.get? as) p).1 (He.cT (He.frT h.get? as) p).2 = true ∧ ∃ o, h.get? (He.cT (He.frT h.get? as) p).2 = some o ∧ He.emptyTab o = true := fun p hp => by
    obtain ⟨z1, z2⟩ := He.ba (List.all_eq_true.mp h2 p hp)
    refine ⟨z1, ?_⟩
    split at z2
    · exact ⟨_, by assumption, z2⟩
    · cases z2
  exact ⟨e1, h1, fun p hp => (tb p hp).1, fun p hp => let ⟨_, _, q, z⟩ := tb p hp; He.frT_none q z, fun p hp => let ⟨_, _, q, z⟩ := tb p hp; q.trans (congrArg some (He.emptyTab_eq z))⟩
def tupAt (K : PySem.W.Frag) (a : Addr) (vs : List V) : Bool := match K.lookup a with
  | some ⟨.type c, _, .seq its _, _⟩ => decide (c = "tuple") && (decide (its.size ≤ sizeLine) && He.relAll vs its.toList)
  | _ => false
theorem tupAt_ok {K : PySem.W.Frag} {a : Addr} {vs : List V} (h : tupAt K a vs = true) (H : Hp) : SqT K H a vs := by
  unfold tupAt at h
  split at h
  · rename_i c d its n sl q
    obtain ⟨h1, h2⟩ := He.ba h
    obtain ⟨h3, h4⟩ := He.ba h2
    exact .inr ⟨_, its, n, q, congrArg Value.type (of_decide_eq_true h1), rfl, of_decide_eq_true h3, He.relAll_ok h4⟩
  · cases h
/-- an own class of errors over ValueError -/
def oexB (K : PySem.W.Frag) (C : Addr) : Bool := (match K.lookup C with
  | some ⟨.type t, _, .cls cd, sl⟩ => decide (t = "type") && ((match cd.mro with
    | .ref C' :: bm => decide (C' = C) && PySem.HandSPX.refsVE bm
    | _ => false) && (cd.hasDict && (!cd.hasDel && (match sl.toList with
    | [_, _, _, _, some (.builtin n), _] => decide (n = "ValueError.__new__")
    | _ => false))))
  | _ => false) && (He.eqO (PySem.W.findIn K (.ref C) "__setattr__") (some (some (.builtin "object.__setattr__"))) && (decide (PySem.W.subIn K (.ref C) (.type "BaseException") = some true) && (decide (PySem.W.typeIn K (.ref C) = some (.type "type")) && PySem.W.keepIn K (.ref C))))
theorem oexB_ok {K : PySem.W.Frag} {C : Addr} (h : oexB K C = true) : OexC K C := by
  obtain ⟨h1, h⟩ := He.ba h
  obtain ⟨h2, h⟩ := He.ba h
  obtain ⟨h3, h⟩ := He.ba h
  obtain ⟨h4, h5⟩ := He.ba h
  refine ⟨?_, He.eqO_ok h2, of_decide_eq_true h3, of_decide_eq_true h4, h5⟩
  split at h1
  · rename_i t dd cd sl lk
    obtain ⟨k1, h1⟩ := He.ba h1
    obtain ⟨k2, h1⟩ := He.ba h1
    obtain ⟨k3, h1⟩ := He.ba h1
    obtain ⟨k4, k5⟩ := He.ba h1
    obtain ⟨nm, bs, mro, ns, qn, hd, sn, sub, ab, col, del⟩ := cd
    dsimp only at k2 k3 k4
    obtain rfl : t = "type" := of_decide_eq_true k1
    obtain rfl : hd = true := k3
    obtain rfl : del = false := by cases del with
      | false => rfl
      | true => cases k4
    cases mro with
    | nil => cases k2
    | cons u bm =>
      cases u with
      | ref C' =>
        obtain ⟨k6, k7⟩ := He.ba k2
        obtain rfl : C' = C := of_decide_eq_true k6
        obtain ⟨l⟩ := sl
        match l, k5, lk with
        | [k0, k1, k2, k3, some (.builtin n), k5'], k5, lk =>
          obtain rfl : n = "ValueError.__new__" := of_decide_eq_true k5
          exact ⟨_, _, _, _, _, _, _, _, _, _, _, _, _, _, _, lk, k7⟩
      | _ => cases k2
  · cases h1
def excB (K : PySem.W.Frag) (D : Addr) : Bool := He.eqO (PySem.W.findIn K (.ref D) "__getattribute__") (some (some (.builtin "BaseException.__getattribute__"))) && (He.eqO (PySem.W.findIn K (.ref D) "__getattr__") (some none) && (decide (PySem.W.subIn K (.ref D) (.type "BaseException") = some true) && (PySem.W.hasDictIn K D &&
  (He.eqO (PySem.W.findIn K (.ref D) "__class__") (some (some (.builtin "object.__class__"))) && (He.eqO (PySem.W.specialIn K (.builtin "object.__class__") "__get__") (some (some (.builtin "getset_descriptor.__get__"))) && (decide (PySem.W.takesIn K (.builtin "object.__class__") = some true) && decide (PySem.W.mroIn K D (.type "object") = some true)))))))
theorem excB_ok {K : PySem.W.Frag} {D : Addr} (h : excB K D = true) : ExcC K D := by
  obtain ⟨h1, h⟩ := He.ba h
  obtain ⟨h2, h⟩ := He.ba h
  obtain ⟨h3, h⟩ := He.ba h
  obtain ⟨h4, h⟩ := He.ba h
  obtain ⟨h5, h⟩ := He.ba h
  obtain ⟨h6, h⟩ := He.ba h
  obtain ⟨h7, h8⟩ := He.ba h
  exact ⟨He.eqO_ok h1, He.eqO_ok h2, of_decide_eq_true h3, h4, He.eqO_ok h5, He.eqO_ok h6, of_decide_eq_true h7, of_decide_eq_true h8⟩
def wrB (K : PySem.W.Frag) (W : Addr) : Bool := PySem.W.readsIn K W (.type "type") && (match PySem.W.findCls K (.ref W) (.type "type") "__init__" with
  | some (.val v) => decide (v = .builtin "ValueError.__init__")
  | _ => false)
theorem wrB_ok {K : PySem.W.Frag} {W : Addr} (h : wrB K W = true) : ∃ mc, PySem.W.readsIn K W mc = true ∧ PySem.W.findCls K (.ref W) mc "__init__" = some (.val (.builtin "ValueError.__init__")) := by
  obtain ⟨h1, h2⟩ := He.ba h
  refine ⟨_, h1, ?_⟩
  split at h2
  · rename_i v e
    rw [e, of_decide_eq_true h2]
  · cases h2
def errOthers : List Str := ["SourceError", "Unknown", "Taken", "NotAllowed", "WrongState", "RingOfWaits", "Full", "Stopped"]
/-- BadArgument, WardError, the others -/
def errB (K : PySem.W.Frag) : Bool := let C := He.ga K "BadArgument"; let W := He.ga K "WardError"; let f := He.ma K C "__init__"
  He.eqO (PySem.W.nsIn K mainGlobals "BadArgument") (some (some (.ref C))) && (He.eqO (PySem.W.nsIn K mainGlobals "WardError") (some (some (.ref W))) && (He.eqO (PySem.W.nsIn K mainGlobals "ValueError") (some none) && (oexB K C && (L2.xfB K C && (excB K C && (He.eqO (PySem.W.findIn K (.ref C) "name") (some none) &&
    (He.eqO (PySem.W.findIn K (.ref C) "__init__") (some (some (.ref f))) && (decide (PySem.W.typeIn K (.ref f) = some (.type "function")) && (He.eqO (PySem.W.specialIn K (.ref W) "__getattribute__") (some (some (.builtin "type.__getattribute__"))) && (wrB K W && (decide (PySem.W.kitOne K (.ref C) (.ref W) = some true) &&
    (decide (PySem.W.exmOne K (.ref C) (.ref W) = some true) && (decide (PySem.W.kitOne K (.ref C) (.type "ValueError") = some true) && (decide (PySem.W.kitOne K (.ref C) (.ref C) = some true) &&
    errOthers.all fun x => He.eqO (PySem.W.nsIn K mainGlobals x) (some (some (.ref (He.ga K x)))) && decide (PySem.W.kitOne K (.ref C) (.ref (He.ga K x)) = some false)))))))))))))))
def ex (K : PySem.W.Frag) : Bool := errB K
def d_is_integer : He.DefD := ⟨("is_integer", none), "is_integer", "is_integer", defArgs s_is_integer, defBody s_is_integer, defScope s_is_integer, [], []⟩
def d_is_in_range : He.DefD := ⟨("is_in_range", none), "is_in_range", "is_in_range", defArgs s_is_in_range, defBody s_is_in_range, defScope s_is_in_range, [], []⟩
def d_is_word : He.DefD := ⟨("is_word", none), "is_word", "is_word", defArgs s_is_word, defBody s_is_word, defScope s_is_word, [], []⟩
def d_are_words : He.DefD := ⟨("are_words", none), "are_words", "are_words", defArgs s_are_words, defBody s_are_words, defScope s_are_words, [], []⟩
def d_is_list_of_words : He.DefD := ⟨("is_list_of_words", none), "is_list_of_words", "is_list_of_words", defArgs s_is_list_of_words, defBody s_is_list_of_words, defScope s_is_list_of_words, [], []⟩
def d_ask_words : He.DefD := ⟨("ask_words", none), "ask_words", "ask_words", defArgs s_ask_words, defBody s_ask_words, defScope s_ask_words, [], []⟩
def d_pack_letter : He.DefD := ⟨("pack_letter", none), "pack_letter", "pack_letter", defArgs s_pack_letter, defBody s_pack_letter, defScope s_pack_letter, [], []⟩
def d_unpack_letters : He.DefD := ⟨("unpack_letters", none), "unpack_letters", "unpack_letters", defArgs s_unpack_letters, defBody s_unpack_letters, defScope s_unpack_letters, [], []⟩
def d__law_mixed : He.DefD := ⟨("_law_mixed", none), "_law_mixed", "_law_mixed", defArgs s__law_mixed, defBody s__law_mixed, defScope s__law_mixed, [], []⟩
def d__law_store : He.DefD := ⟨("_law_store", none), "_law_store", "_law_store", defArgs s__law_store, defBody s__law_store, defScope s__law_store, [], []⟩
def d__law_take : He.DefD := ⟨("_law_take", none), "_law_take", "_law_take", defArgs s__law_take, defBody s__law_take, defScope s__law_take, [], []⟩
def d__law_pick : He.DefD := ⟨("_law_pick", none), "_law_pick", "_law_pick", defArgs s__law_pick, defBody s__law_pick, defScope s__law_pick, [], []⟩
def d__law_between : He.DefD := ⟨("_law_between", none), "_law_between", "_law_between", defArgs s__law_between, defBody s__law_between, defScope s__law_between, [], []⟩
def d__law_size : He.DefD := ⟨("_law_size", none), "_law_size", "_law_size", defArgs s__law_size, defBody s__law_size, defScope s__law_size, [], []⟩
def d__law_word : He.DefD := ⟨("_law_word", none), "_law_word", "_law_word", defArgs s__law_word, defBody s__law_word, defScope s__law_word, [], []⟩
def d__law_words : He.DefD := ⟨("_law_words", none), "_law_words", "_law_words", defArgs s__law_words, defBody s__law_words, defScope s__law_words, [], []⟩
def d__law_wrong_integer : He.DefD := ⟨("_law_wrong_integer", none), "_law_wrong_integer", "_law_wrong_integer", defArgs s__law_wrong_integer, defBody s__law_wrong_integer, defScope s__law_wrong_integer, [], []⟩
def d__law_wrong_words : He.DefD := ⟨("_law_wrong_words", none), "_law_wrong_words", "_law_wrong_words", defArgs s__law_wrong_words, defBody s__law_wrong_words, defScope s__law_wrong_words, [], []⟩
def d__law_alike : He.DefD := ⟨("_law_alike", none), "_law_alike", "_law_alike", defArgs s__law_alike, defBody s__law_alike, defScope s__law_alike, [], []⟩
def d__law_copy : He.DefD := ⟨("_law_copy", none), "_law_copy", "_law_copy", defArgs s__law_copy, defBody s__law_copy, defScope s__law_copy, [], []⟩
def d__law_letter : He.DefD := ⟨("_law_letter", none), "_law_letter", "_law_letter", defArgs s__law_letter, defBody s__law_letter, defScope s__law_letter, [], []⟩
def d__law_wrong_letter : He.DefD := ⟨("_law_wrong_letter", none), "_law_wrong_letter", "_law_wrong_letter", defArgs s__law_wrong_letter, defBody s__law_wrong_letter, defScope s__law_wrong_letter, [], []⟩
def d__law_refusal : He.DefD := ⟨("_law_refusal", none), "_law_refusal", "_law_refusal", defArgs s__law_refusal, defBody s__law_refusal, defScope s__law_refusal, [], []⟩
def d__law_called : He.DefD := ⟨("_law_called", none), "_law_called", "_law_called", defArgs s__law_called, defBody s__law_called, defScope s__law_called, [], []⟩
def d__law_joined : He.DefD := ⟨("_law_joined", none), "_law_joined", "_law_joined", defArgs s__law_joined, defBody s__law_joined, defScope s__law_joined, [], []⟩
def d__law_cut_right : He.DefD := ⟨("_law_cut_right", none), "_law_cut_right", "_law_cut_right", defArgs s__law_cut_right, defBody s__law_cut_right, defScope s__law_cut_right, [], []⟩
def d__law_spoilt : He.DefD := ⟨("_law_spoilt", none), "_law_spoilt", "_law_spoilt", defArgs s__law_spoilt, defBody s__law_spoilt, defScope s__law_spoilt, [], []⟩
def d_law : He.DefD := ⟨("law", none), "law", "law", defArgs s_law, defBody s_law, defScope s_law, [], []⟩
def d_B_init : He.DefD := ⟨("BadArgument", some "__init__"), "__init__", "BadArgument.__init__", defArgs s_BadArgument____init__, defBody s_BadArgument____init__, defScope s_BadArgument____init__, [], []⟩
def fn0 : List He.DefD := [d_is_integer, d_is_in_range, d_is_word, d_are_words, d_is_list_of_words, d_ask_words, d_pack_letter, d_unpack_letters, d__law_mixed, d__law_store, d__law_take, d__law_pick]
def fn1 : List He.DefD := [d__law_between, d__law_size, d__law_word, d__law_words, d__law_wrong_integer, d__law_wrong_words, d__law_alike, d__law_copy, d__law_letter, d__law_wrong_letter, d__law_refusal, d__law_called]
def fn2 : List He.DefD := [d__law_joined, d__law_cut_right, d__law_spoilt, d_law, d_B_init]
def fn : List He.DefD := fn0 ++ (fn1 ++ (fn2))
def fa0 : List He.Fa := [.glo "is_integer", .glo "is_in_range", .glo "is_word", .glo "are_words", .glo "is_list_of_words", .glo "ask_words", .glo "pack_letter", .glo "unpack_letters", .glo "_law_mixed", .glo "_law_store", .glo "_law_take", .glo "_law_pick"]
def fa1 : List He.Fa := [.glo "_law_between", .glo "_law_size", .glo "_law_word", .glo "_law_words", .glo "_law_wrong_integer", .glo "_law_wrong_words", .glo "_law_alike", .glo "_law_copy", .glo "_law_letter", .glo "_law_wrong_letter", .glo "_law_refusal", .glo "_law_called"]
def fa2 : List He.Fa := [.glo "_law_joined", .glo "_law_cut_right", .glo "_law_spoilt", .glo "law", .int "WORDS" 65536, .free "int", .free "len", .free "range", .free "list", .free "abs", .free "min", .free "max"]
def fa3 : List He.Fa := [.free "isinstance", .free "bool", .free "str", .free "tuple", .free "dict", .free "sorted", .free "all", .free "any", .free "zip", .free "enumerate", .free "sum"]
def fa : List He.Fa := fa0 ++ (fa1 ++ (fa2 ++ (fa3)))
def tf : List He.Defn := [("are_words", none)]
def NN : Nat := 6
abbrev AlY : Type := He.AlX
def asY (g : Addr → Option Obj) : List Addr := He.asD g NN ++ [cStatics]
def obsY (g : Addr → Option Obj) : AlY := obsA (asY g) fa fn tf ex g
theorem saysY (w : World) (s : Shared) (e : obsY s.heap.get? = He.valX fn [] w) : ∃ K : PySem.W.Frag, K.In s.heap ∧ He.SaysX fa fn [] tf ex w s.heap K := by
  have e1 : obsA (asY s.heap.get?) fa fn tf ex s.heap.get? = He.valX fn [] w := e
  exact ⟨He.frT s.heap.get? (asY s.heap.get?), He.frT_in, saysA e1⟩
def hookY : PySem.W.Hook where
  α := AlY
  obs := fun s => obsY s.heap.get?
  val := fun w => He.valX fn [] w
  says := fun w h => ∃ K : PySem.W.Frag, K.In h ∧ He.SaysX fa fn [] tf ex w h K
  of := fun _ s e => saysY _ s e
  keeps := fun _ _ _ ⟨K, hK, c⟩ k => ⟨K, PySem.W.Frag.In.keeps hK k, ⟨c.t, c.more, c.hd, c.out, fun p hp => k _ _ (c.empty p hp)⟩⟩
def ob (s : PySem.W.SharedT) : AlY := obsY (HandSHeadRun.getT s)
theorem ob_eq (s : PySem.W.SharedT) : ob s = hookY.obs s.abs := by
  show obsY (HandSHeadRun.getT s) = obsY s.abs.heap.get?
  rw [show HandSHeadRun.getT s = s.abs.heap.get? from funext (HandSHeadRun.getT_eq s)]
abbrev R : PySem.W.OpenRow := PySem.W.OpenLaw.row PySem.Challenge.rw_wardwork_k46_packed_letters
def loose0 : List Str := ["WardError", "SourceError", "BadArgument", "Unknown", "Taken", "NotAllowed", "WrongState", "RingOfWaits", "Full", "Stopped", "WORDS", "is_integer"]
def loose1 : List Str := ["is_in_range", "is_word", "are_words", "is_list_of_words", "ask_words", "pack_letter", "unpack_letters", "_law_mixed", "_law_store", "_law_take", "_law_pick", "_law_between"]
def loose2 : List Str := ["_law_size", "_law_word", "_law_words", "_law_wrong_integer", "_law_wrong_words", "_law_alike", "_law_copy", "_law_letter", "_law_wrong_letter", "_law_refusal", "_law_called", "_law_joined"]
def loose3 : List Str := ["_law_cut_right", "_law_spoilt"]
def loose : List Str := loose0 ++ (loose1 ++ (loose2 ++ (loose3)))
end K46
namespace K46
open PySem PySem.Spec PyProof.Rows L2 Wk
theorem run (w : World) : HandSHeadRun.RunEq R (PySem.W.view R.prog [42]) hookY ob 20000 loose w := by
  intro os
  kernel_rfl
end K46
set_option Elab.async false
set_option linter.all false
set_option maxRecDepth 100000
set_option maxHeartbeats 4000000
namespace K46
open PySem PySem.Spec PyProof.Rows L2 Wk
local macro_rules | `(tactic| walk_at "u1") => `(tactic| fail "no more")
local macro_rules | `(tactic| walk_at "pos") => `(tactic| first | assumption | omega | decide | (simp only [Int.ofNat_eq_natCast] at *; omega))
local macro_rules | `(tactic| walk_at "sz") => `(tactic| first
  | (simp only [List.length_cons, List.length_nil]; decide)
  | exact Evl.sz_of (by omega)
  | exact Evl.sz_lt (by omega)
  | exact Evl.sz_of (by simp only [List.length_map, List.length_append, List.length_cons, List.length_nil, List.length_replicate]; omega)
  | exact Evl.sz_lt (by simp only [List.length_map, List.length_append, List.length_cons, List.length_nil, List.length_replicate]; omega))
local macro_rules | `(tactic| walk_at "cond") => `(tactic| first
  | exact Or.inr ⟨by decide, by decide⟩
  | (show (0 : Int) < _; first | decide | assumption | omega)
  | exact Or.inl ⟨by omega, by omega⟩
  | exact Or.inr ⟨by omega, by omega⟩
  | exact ⟨by decide, by decide, by decide⟩
  | exact log2_lt (by omega) (by omega)
  | exact ⟨by omega, by omega⟩)
local macro_rules | `(tactic| walk_at "ty") => `(tactic| first
  | exact ty_int | exact ty_bl | exact ty_str | exact ty_non
  | exact ty_L (by assumption) | exact ty_T (by assumption)
  | exact ty_L (SqL.of (by assumption)) | exact ty_T (SqT.of (by assumption)))
local macro_rules | `(tactic| walk_at "kit") => `(tactic| first
  | exact k_ii | exact k_ib | exact k_is | exact k_il | exact k_it
  | exact k_bb | exact k_bi | exact k_bs | exact k_bl | exact k_bt
  | exact k_ss | exact k_sb | exact k_si | exact k_sl | exact k_st
  | exact k_ll | exact k_lb | exact k_li | exact k_ls | exact k_lt
  | exact k_tt | exact k_tb | exact k_ti | exact k_ts | exact k_tl
  | exact k_nn | exact k_ni | exact k_ns | exact k_nl | exact k_nt)
local macro_rules | `(tactic| walk_at "s1") => `(tactic| first
  | with_reducible refine w_seq ?_
  | with_reducible refine w_set ?_
  | with_reducible refine w_op ?_
  | ((with_reducible refine' w_var ?h1 ?_); (case h1 => rfl))
  | with_reducible refine w_c ?_
  | with_reducible refine w_cb ?_
  | with_reducible refine w_cons ?_
  | with_reducible refine w_nil ?_
  | with_reducible refine w_I0 ?_
  | ((with_reducible refine' w_I ?c1 ?_); case c1 => walk_at "cond")
  | with_reducible refine w_ret ?_
  | with_reducible refine w_next ?_
  | with_reducible refine w_ifS ?_
  | with_reducible refine w_test ?_
  | with_reducible refine w_tB ?_
  | with_reducible refine w_k ?_
  | with_reducible refine w_eqI ?_
  | with_reducible refine w_neI ?_
  | with_reducible refine w_eqS ?_
  | with_reducible refine w_neS ?_
  | with_reducible refine w_and ?_
  | with_reducible refine w_or ?_
  | with_reducible refine w_not ?_
  | with_reducible refine w_andV ?_
  | with_reducible refine w_orV ?_
  | with_reducible refine w_notV ?_
  | with_reducible refine w_ifE ?_
  | with_reducible refine w_true ?_
  | with_reducible refine w_false ?_
  | with_reducible refine w_ntrue ?_
  | with_reducible refine w_nfalse ?_
  | with_reducible refine w_call ?_
  | with_reducible refine c_int ?_
  | with_reducible refine c_abs ?_
  | with_reducible refine c_max ?_
  | with_reducible refine c_min ?_
  | with_reducible refine w_drop ?_
  | with_reducible refine w_sfld ?_
  | with_reducible refine w_meth ?_
  | with_reducible refine w_make ?_
  | with_reducible refine w_prop ?_
  | with_reducible refine w_callK ?_
  | with_reducible refine w_callN ?_
  | with_reducible refine w_star ?_
  | with_reducible refine w_gcons ?_
  | with_reducible refine w_gname ?_
  | with_reducible refine w_gnil ?_
  | with_reducible refine w_retN ?_
  | with_reducible refine w_tup ?_
  | with_reducible refine w_lst ?_
  | with_reducible refine w_fld ?_
  | with_reducible refine w_bm ?_
  | with_reducible refine w_bm0 ?_
  | with_reducible refine w_forL ?_
  | with_reducible refine w_forT ?_
  | with_reducible refine w_forS ?_
  | with_reducible refine w_forR ?_
  | with_reducible refine w_lcR ?_
  | with_reducible refine w_lcL ?_
  | with_reducible refine w_lcT ?_
  | with_reducible refine w_isN ?_
  | with_reducible refine w_notN ?_
  | with_reducible refine w_asg ?_
  | with_reducible refine w_gsub ?_
  | ((with_reducible refine' w_aug ?h1 ?_); (case h1 => rfl))
  | with_reducible refine w_augS ?_
  | with_reducible refine w_ipI ?_
  | with_reducible refine w_un ?_
  | with_reducible refine w_U ?_
  | ((with_reducible refine' w_iteF ?f1 ?_); case f1 => (first | (intro h; cases h; done) | decide))
  | ((with_reducible refine' w_iteT ?f1 ?_); case f1 => rfl)
  | ((with_reducible refine' w_iteNF ?f1 ?_); case f1 => rfl)
  | ((with_reducible refine' w_iteNT ?f1 ?_); case f1 => (first | (intro h; cases h; done) | decide))
  | ((with_reducible refine' c_isi ?t1 ?k1 ?_); (case t1 => walk_at "ty"); (case k1 => walk_at "kit"))
  | ((with_reducible refine' w_eq ?e1 ?_); case e1 => rfl)
  | ((with_reducible refine' w_ne ?e1 ?_); case e1 => rfl)
  | walk_at "u1")
local macro_rules | `(tactic| walk_at "s") => `(tactic| repeat walk_at "s1")
local macro_rules | `(tactic| walk_at "mem") => `(tactic| first | with_reducible exact List.mem_cons_self .. | ((with_reducible refine' List.mem_cons_of_mem _ ?q); (case q => walk_at "mem")) | assumption | ((with_reducible refine' List.mem_append_right _ ?q); (case q => walk_at "mem")) | (exact List.mem_append_left _ (by assumption)))
local macro_rules | `(tactic| walk_at "pk") => `(tactic| first | with_reducible exact Pk.here | ((with_reducible refine' Pk.there ?q); (case q => walk_at "pk")) | ((with_reducible refine' Pk.app ?q); (case q => walk_at "pk")))
local macro_rules | `(tactic| walk_at "pkb") => `(tactic| first | with_reducible exact PkB.here | ((with_reducible refine' PkB.there ?q); (case q => walk_at "pkb")) | ((with_reducible refine' PkB.app ?q); (case q => walk_at "pkb")))
local macro_rules | `(tactic| walk_at "spl") => `(tactic| first | with_reducible exact Spl.nil | ((with_reducible refine' Spl.cons ?h ?t); (case h => walk_at "pk"); (case t => walk_at "spl")) | ((with_reducible refine' Spl.blk ?h ?t); (case h => walk_at "pkb"); (case t => walk_at "spl")))
local macro_rules | `(tactic| walk_at "sbx") => `(tactic| first | with_reducible exact Sb.refl | with_reducible exact Sb.nil | with_reducible exact Sb.left | ((with_reducible refine' Sb.cons ?h ?t); (case h => walk_at "pk"); (case t => walk_at "sbx")) | ((with_reducible refine' Sb.blk ?h ?t); (case h => walk_at "pkb"); (case t => walk_at "sbx")) | ((with_reducible refine' Sb.drop ?q); (case q => walk_at "sbx")) | ((with_reducible refine' Sb.right ?q); (case q => walk_at "sbx")))
local macro_rules | `(tactic| walk_at "hd") => `(tactic| first | assumption | exact Hd.sb (by assumption) (by walk_at "sbx"))
local macro_rules | `(tactic| walk_at "sq") => `(tactic| first
  | assumption
  | exact Hd.sqL (by assumption) (by walk_at "mem")
  | exact Hd.sqT (by assumption) (by walk_at "mem")
  | exact Hd.sqF (by assumption) (by walk_at "mem")
  | (refine .inl ?_; walk_at "sq")
  | (refine .inr ?_; walk_at "sq"))
local macro_rules | `(tactic| walk_at "at") => `(tactic| first | rfl | assumption | exact atI_nat (by assumption))
local macro_rules | `(tactic| walk_at "dn1") => `(tactic| first
  | exact Dn.int | exact Dn.str | exact Dn.non | exact Dn.bl | assumption
  | ((refine' Dn.tp ?a1 ?m1 ?l1 ?p1); (case a1 => assumption); (case m1 => walk_at "mem"); (case l1 => (simp only [List.length_cons, List.length_nil]; omega)); (case p1 => walk_at "dns"))
  | ((refine' Dn.lt ?a1 ?m1 ?l1 ?p1); (case a1 => assumption); (case m1 => walk_at "mem"); (case l1 => (simp only [List.length_cons, List.length_nil]; omega)); (case p1 => walk_at "dns")))
local macro_rules | `(tactic| walk_at "dns") => `(tactic| first | exact Paired.nil | exact Dn.ints | ((refine' Paired.cons ?a1 ?b1); (case a1 => walk_at "dn1"); (case b1 => walk_at "dns")))
local macro_rules | `(tactic| walk_at "g1") => `(tactic| first
  | ((with_reducible refine' g_ixI ?h1 ?h2 ?h3 ?_); (case h1 => assumption); (case h2 => walk_at "mem"); (case h3 => omega); intro z hz)
  | ((with_reducible refine' g_ixIT ?h1 ?h2 ?h3 ?_); (case h1 => assumption); (case h2 => walk_at "mem"); (case h3 => omega); intro z hz)
  | ((with_reducible refine' g_setI ?h1 ?h2 ?h3 ?_); (case h1 => assumption); (case h2 => walk_at "pk"); (case h3 => omega); intro H2 hh2)
  | ((with_reducible refine' w_ixL ?h1 ?h2 ?_); (case h1 => walk_at "sq"); (case h2 => walk_at "at"))
  | ((with_reducible refine' w_ixT ?h1 ?h2 ?_); (case h1 => walk_at "sq"); (case h2 => walk_at "at"))
  | ((with_reducible refine' w_ixAny ?h1 ?h2 ?_); (case h1 => walk_at "sq"); (case h2 => walk_at "at"))
  | ((with_reducible refine' c_lenA ?h1 ?_); (case h1 => walk_at "sq"))
  | ((with_reducible refine' c_isi ?t1 ?k1 ?_); (case t1 => first | exact ty_T (by walk_at "sq") | exact ty_L (by walk_at "sq")); (case k1 => walk_at "kit"))
  | ((with_reducible refine' g_lst ?h1 ?h2 ?_); (case h1 => assumption); (case h2 => walk_at "sz"); intro p H2 hh2)
  | ((with_reducible refine' g_tup ?h1 ?h2 ?_); (case h1 => assumption); (case h2 => walk_at "sz"); intro p H2 hh2)
  | ((with_reducible refine' g_dict ?h1 ?_); (case h1 => assumption); intro p H2 hh2)
  | ((with_reducible refine' g_listL ?h1 ?h2 ?_); (case h1 => assumption); (case h2 => walk_at "sq"); intro p H2 hh2)
  | ((with_reducible refine' g_listT ?h1 ?h2 ?_); (case h1 => assumption); (case h2 => walk_at "sq"); intro p H2 hh2)
  | ((with_reducible refine' g_tupL ?h1 ?h2 ?_); (case h1 => assumption); (case h2 => walk_at "sq"); intro p H2 hh2)
  | ((with_reducible refine' g_set ?h1 ?h2 ?h3 ?_); (case h1 => assumption); (case h2 => walk_at "pk"); (case h3 => first | rfl | assumption | exact Evl.ixN_nat (by first | omega | (simp only [List.length_cons, List.length_nil]; omega))); intro H2 hh2)
  | ((with_reducible refine' g_kbm ?h1 ?h2 ?_); (case h1 => assumption); (case h2 => walk_at "mem"))
  | ((with_reducible refine' g_kbm0 ?h1 ?h2 ?_); (case h1 => assumption); (case h2 => walk_at "mem"))
  | ((with_reducible refine' g_app ?h1 ?h2 ?h3 ?_); (case h1 => assumption); (case h2 => walk_at "pk"); (case h3 => walk_at "sz"); intro H2 hh2)
  | ((with_reducible refine' g_kapp ?h1 ?h2 ?h3 ?_); (case h1 => assumption); (case h2 => walk_at "pk"); (case h3 => walk_at "sz"); intro H2 hh2)
  | ((with_reducible refine' g_fld ?h1 ?h2 ?h3 ?h4 ?h5 ?_); (case h1 => assumption); (case h2 => walk_at "mem"); (case h3 => assumption); (case h4 => assumption); (case h5 => rfl))
  | ((with_reducible refine' g_sfld ?h1 ?h2 ?h3 ?h4 ?h5 ?_); (case h1 => assumption); (case h2 => walk_at "pk"); (case h3 => assumption); (case h4 => assumption); (case h5 => decide); intro H2 hh2)
  | ((with_reducible refine' g_meth ?h1 ?h2 ?h3 ?_); (case h1 => assumption); (case h2 => walk_at "mem"); (case h3 => rfl))
  | ((with_reducible refine' g_prop ?h1 ?h2 ?_); (case h1 => assumption); (case h2 => walk_at "mem"))
  | ((with_reducible refine' g_make ?h1 ?_); (case h1 => assumption); intro x H2 hh2)
  | ((with_reducible refine' g_cat ?h1 ?h2 ?h3 ?h4 ?_); (case h1 => assumption); (case h2 => walk_at "mem"); (case h3 => walk_at "mem"); (case h4 => walk_at "sz"); intro p H2 hh2)
  | ((with_reducible refine' g_inT ?h1 ?h2 ?h3 ?h4 ?h5 ?_); (case h1 => assumption); (case h2 => walk_at "mem"); (case h3 => rfl); (case h4 => rfl); (case h5 => rfl)))
local macro_rules | `(tactic| walk_at "gs") => `(tactic| repeat first | walk_at "s1" | walk_at "g1")
local macro_rules | `(tactic| walk_at "ite") => `(tactic| first
  | ((with_reducible refine' w_iteT ?h1 ?_); (case h1 => omega))
  | ((with_reducible refine' w_iteF ?h1 ?_); (case h1 => omega))
  | (with_reducible refine w_ite ?_ ?_ <;> intro hq)
  | ((with_reducible refine' w_iteNT ?h1 ?_); (case h1 => omega))
  | ((with_reducible refine' w_iteNF ?h1 ?_); (case h1 => omega))
  | (with_reducible refine w_iteN ?_ ?_ <;> intro hq))
local macro_rules | `(tactic| walk_at "go") => `(tactic| repeat' first | walk_at "s1" | walk_at "g1" | walk_at "ite")
section
variable {P : Program} {w : World} {K : PySem.W.Frag} {mg : Str → Option Value} {base : Heap} {aREG aOPS : Addr}
/-! ### the draws: what every law draws with -/
/-- the store of draws at st, the script's cells at c -/
def StoreAt (H : Hp) (st c : Addr) : Prop := ∃ (ns : List Int) (i b t z : Int), H st = some (.lst [.ref c, .int i, .int b, .int t, .int z]) ∧ H c = some (.lst (ns.map V.int)) ∧ 0 ≤ i ∧ 0 ≤ b ∧ 0 ≤ z ∧ z < 2147483647
theorem StoreAt.ne {H : Hp} {st c : Addr} (S : StoreAt H st c) : c ≠ st := by
  obtain ⟨ns, i, b, t, z, h1, h2, _⟩ := S
  refine ne_of h2 h1 fun e => ?_
  cases ns with
  | nil => cases e
  | cons n ns => cases e
theorem StoreAt.upt {H H' : Hp} {st c : Addr} {S : List Addr} (s : StoreAt H st c) (u : Upt S H H') (h1 : st ∉ S) (h2 : c ∉ S) : StoreAt H' st c := by
  obtain ⟨ns, i, b, t, z, e1, e2, r⟩ := s
  exact ⟨ns, i, b, t, z, u _ _ h1 e1, u _ _ h2 e2, r⟩
theorem StoreAt.new {H H' : Hp} {st c p : Addr} {o : HO} (s : StoreAt H st c) (n : New H H' p o) : StoreAt H' st c := s.upt n.keep (by simp) (by simp)
theorem StoreAt.off {H H' : Hp} {st c p : Addr} {o : HO} (s : StoreAt H st c) (n : New H H' p o) : p ≠ st ∧ p ≠ c := by
  obtain ⟨ns, i, b, t, z, e1, e2, r⟩ := s
  exact ⟨n.ne' e1, n.ne' e2⟩
theorem StoreAt.chg {H H' : Hp} {st c p : Addr} {o : HO} (s : StoreAt H st c) (n : Chg H H' p o) (h1 : p ≠ st) (h2 : p ≠ c) : StoreAt H' st c := s.upt n.keep (fun z => h1 (List.mem_singleton.mp z).symm) (fun z => h2 (List.mem_singleton.mp z).symm)
theorem store_chg {H H' : Hp} {st c : Addr} {ns : List Int} {i b t z : Int} (n : Chg H H' st (.lst [.ref c, .int i, .int b, .int t, .int z])) (e : H c = some (.lst (ns.map V.int))) (ne : c ≠ st) (h1 : 0 ≤ i) (h2 : 0 ≤ b) (h3 : 0 ≤ z) (h4 : z < 2147483647) : StoreAt H' st c :=
  ⟨ns, i, b, t, z, n.at_, n.keep.at1 ne e, h1, h2, h3, h4⟩
/-- a number that is drawn: how the store and the heap may stand behind it -/
def Drawn (st c : Addr) (H : Hp) (P : Int → Prop) (Q : VK) : Prop := ∀ (k : Int) (H' : Hp), P k → StoreAt H' st c → Upt [st] H H' → Q (.int k) H'
/-- number and turn give something from 0 to many - 1 -/
def sp_mixed : Sp := fun vs H Q _ => ∃ n t m : Int, vs = [.int n, .int t, .int m] ∧ 0 < m ∧ ∀ k : Int, 0 ≤ k → k < m → Q (.int k) H
theorem c_mixed (T : Txt K mg aREG aOPS) (d : DefAt K mg "_law_mixed" s__law_mixed) : C8.Cal P w K mg base 1 "_law_mixed" sp_mixed [] := by
  refine mk d sc__law_mixed (fun _ _ _ _ _ _ us hl => match us, hl with | [_, _, _], _ => rfl) (fun vs H Q E h => ?_) (fun f cdv A outer s H vs Q E hr h => ?_)
  · obtain ⟨n, t, m, rfl, _⟩ := h
    rfl
  · obtain ⟨n, t, m, rfl, hm, k⟩ := h
    refine ⟨_, (pss_cons (ps_set (i := 3) sc__law_mixed.nd rfl (Or.inl rfl) (pe_op op_mod (pe_callTy Wk.b_int (by rfl) T.b_int (by decide +kernel) (pa_cons (pe_op op_add (pe_op op_add (pe_op op_mul (pe_callTy Wk.b_int (by rfl) T.b_int (by decide +kernel) (pa_cons (pv 0) pa_nil)) pe_int) (pe_op op_mul (pe_callTy Wk.b_int (by rfl) T.b_int (by decide +kernel) (pa_cons (pv 1) pa_nil)) pe_int)) pe_int) pa_nil)) pe_int))
  (pss_cons (ps_set (i := 4) sc__law_mixed.nd rfl (Or.inl rfl) (pe_op op_mod (pe_callTy Wk.b_int (by rfl) T.b_int (by decide +kernel) (pa_cons (pe_op op_add (pe_op op_add (pe_op op_mul (pv 3) (pv 3)) (pe_op op_mul (pe_callTy Wk.b_int (by rfl) T.b_int (by decide +kernel) (pa_cons (pv 1) pa_nil)) pe_int)) pe_int) pa_nil)) pe_int))
  (pss_cons (ps_set (i := 5) sc__law_mixed.nd rfl (Or.inl rfl) (pe_op op_mod (pe_callTy Wk.b_int (by rfl) T.b_int (by decide +kernel) (pa_cons (pe_op op_add (pe_op op_mul (pv 4) (pv 4)) (pv 3)) pa_nil)) pe_int))
  (pss_cons (ps_if (pt_cmpR op_gt (pv 2) pe_int (nomark _))
    (pss_one (ps_ret (pe_op op_mod (pe_callTy Wk.b_int (by rfl) T.b_int (by decide +kernel) (pa_cons (pe_op op_add (pe_op op_mul (pv 4) pe_int) (pv 5)) pa_nil)) (pv 2))))
    pss_nil)
  (pss_one (ps_ret (pe_op op_mod (pv 5) (pv 2)))))))), ?_⟩
    walk_at "s"
    refine w_ite (fun h1 => ?_) (fun h1 => ?_)
    all_goals walk_at "s"
    all_goals exact k _ (Int.emod_nonneg _ (by omega)) (Int.emod_lt_of_pos _ hm)
theorem u_mixed {n t m : Int} {H : Hp} {Q : VK} {E : XK} (hm : 0 < m) (q : ∀ k : Int, 0 ≤ k → k < m → Q (.int k) H) : sp_mixed [.int n, .int t, .int m] H Q E := ⟨n, t, m, rfl, hm, q⟩
def sp_store (K : PySem.W.Frag) : Sp := fun vs H Q _ => ∃ (a : Addr) (ns : List Int) (salt : Int), vs = [.ref a, .int salt] ∧ SqL K H a (ns.map V.int) ∧ ns.length ≤ 63 ∧ 0 ≤ salt ∧ salt ≤ 200000 ∧
  ∀ st c H', H st = none → H c = none → StoreAt H' st c → Upt [] H H' → Q (.ref st) H'
theorem c_store (T : Txt K mg aREG aOPS) (d : DefAt K mg "_law_store" s__law_store) : C8.Cal P w K mg base 1 "_law_store" (sp_store K) [] := by
  refine mk d sc__law_store (fun _ _ _ _ _ _ us hl => match us, hl with | [_, _], _ => rfl) (fun vs H Q E h => ?_) (fun f cdv A outer s H vs Q E hr h => ?_)
  · obtain ⟨a, ns, z, rfl, _⟩ := h
    rfl
  · obtain ⟨a, ns, z, rfl, hS, hl, hz0, hz1, k⟩ := h
    refine ⟨_, (pss_cons (ps_set (i := 2) sc__law_store.nd rfl (Or.inl rfl) (pe_op op_add (pe_op op_mul (pv 1) pe_int) (pe_callB Wk.b_len (by rfl) T.b_len (by decide +kernel) (pa_cons (pv 0) pa_nil))))
  (pss_cons (ps_for PassesOwn.never rfl (pi_list (pv 0)) (pg_name (i := 3) sc__law_store.nd rfl (Or.inl rfl))
    (pss_one (ps_set (i := 2) sc__law_store.nd rfl (Or.inl rfl) (pe_op op_mod (pe_callTy Wk.b_int (by rfl) T.b_int (by decide +kernel) (pa_cons (pe_op op_add (pe_op op_add (pe_op op_mul (pv 2) pe_int) (pe_op op_mod (pe_callTy Wk.b_int (by rfl) T.b_int (by decide +kernel) (pa_cons (pv 3) pa_nil)) pe_int)) pe_int) pa_nil)) pe_int))))
  (pss_one (ps_ret (pe_lst (pa_cons (pe_callTy Wk.b_list (by rfl) T.b_list (by decide +kernel) (pa_cons (pv 0) pa_nil)) (pa_cons pe_int (pa_cons pe_int (pa_cons pe_int (pa_cons (pv 2) pa_nil)))))))))), ?_⟩
    walk_at "s"
    refine c_lenL hS ?_
    walk_at "s"
    refine l_list hS (fun i σ H2 => H2 = H ∧ ∃ (s : Int) (v : Option V), σ = [some (.ref a), some (.int z), some (.int s), v] ∧ 0 ≤ s ∧ s < 2147483647) ⟨rfl, _, _, rfl, ?_, ?_⟩ (fun i σ H2 _ ⟨e, _⟩ => by rw [e]; exact hS) ?_ ?_
    · rw [List.length_map]; omega
    · rw [List.length_map]; omega
    · rintro i y σ H2 hi ⟨rfl, s, v, rfl, h0, h1⟩
      obtain ⟨n, rfl⟩ := item_int hi
      walk_at "s"
      exact ⟨rfl, _, _, rfl, Int.emod_nonneg _ (by omega), Int.emod_lt_of_pos _ (by omega)⟩
    · rintro σ H2 ⟨rfl, s, v, rfl, h0, h1⟩
      walk_at "s"
      refine c_listL hS fun c H3 n3 => ?_
      walk_at "s"
      refine w_new (by walk_at "sz") fun st H4 n4 => ?_
      have e := n4.keep.at0 n3.at_
      exact k st c H4 (n3.keep.free (by simp) n4.no) n3.no ⟨ns, 0, 0, 0, s, n4.at_, e, by omega, by omega, h0, h1⟩ (n3.keep.trans n4.keep)
theorem u_store {a : Addr} {ns : List Int} {z : Int} {H : Hp} {Q : VK} {E : XK} (h : SqL K H a (ns.map V.int)) (hl : ns.length ≤ 63) (h0 : 0 ≤ z) (h1 : z ≤ 200000) (q : ∀ st c H', H st = none → H c = none → StoreAt H' st c → Upt [] H H' → Q (.ref st) H') : sp_store K [.ref a, .int z] H Q E :=
  ⟨a, ns, z, rfl, h, hl, h0, h1, q⟩
def sp_take : Sp := fun vs H Q _ => ∃ (st c : Addr) (m : Int), vs = [.ref st, .int m] ∧ StoreAt H st c ∧ m ≤ 4611686018427387904 ∧ Drawn st c H (fun k => 0 ≤ k ∧ (k < m ∨ k = 0)) Q
theorem c_take (T : Txt K mg aREG aOPS) (d : DefAt K mg "_law_take" s__law_take) (c__law_mixed : C8.Cal P w K mg base 1 "_law_mixed" sp_mixed []) : C8.Cal P w K mg base 2 "_law_take" sp_take [] := by
  refine mk d sc__law_take (fun _ _ _ _ _ _ us hl => match us, hl with | [_, _], _ => rfl) (fun vs H Q E h => ?_) (fun f cdv A outer s H vs Q E hr h => ?_)
  · obtain ⟨st, c, m, rfl, _⟩ := h
    rfl
  · obtain ⟨st, c, m, rfl, S, hm, k⟩ := h
    have ne := S.ne
    obtain ⟨ns, i, b, t, z, h1, h2, hi, hb, hz0, hz1⟩ := S
    refine ⟨_, (pss_cons (ps_augS (pv 0) pe_int Wk.get_list pe_int ip_add set_list)
  (pss_cons (ps_if (pt_cmpR op_lt (pv 1) pe_int (nomark _))
    (pss_one (ps_ret pe_int))
    pss_nil)
  (C8.pss_cut (ps_if (PW.pt (pw_and (pt_cmpR op_eq (pe_ix ix_list (pv 0) pe_int (fun _ _ => rfl)) pe_int (nomark _)) (pw_and1 (pt_cmpR op_lt (pe_ix ix_list (pv 0) pe_int (fun _ _ => rfl)) (pe_callB Wk.b_len (by rfl) T.b_len (by decide +kernel) (pa_cons (pe_ix ix_list (pv 0) pe_int (fun _ _ => rfl)) pa_nil)) (nomark _)))))
    (pss_cons (ps_set (i := 2) sc__law_take.nd rfl (Or.inl rfl) (pe_callTy Wk.b_int (by rfl) T.b_int (by decide +kernel) (pa_cons (pe_ix ix_list (pe_ix ix_list (pv 0) pe_int (fun _ _ => rfl)) (pe_ix ix_list (pv 0) pe_int (fun _ _ => rfl)) (fun _ _ => rfl)) pa_nil)))
      (pss_cons (ps_augS (pv 0) pe_int Wk.get_list pe_int ip_add set_list)
      (pss_cons (ps_if (pt_cmpR op_lt (pe_callB Wk.b_abs (by rfl) T.b_abs (by decide +kernel) (pa_cons (pv 2) pa_nil)) (pe_op op_pow pe_int pe_int) (nomark _))
        (pss_one (ps_ret (C8.pe_c c__law_mixed hr (by first | decide | omega) rfl (pa_cons (pv 2) (pa_cons (pe_ix ix_list (pv 0) pe_int (fun _ _ => rfl)) (pa_cons (pv 1) pa_nil))))))
        pss_nil)
      (pss_one (ps_asg (pe_callB Wk.b_abs (by rfl) T.b_abs (by decide +kernel) (pa_cons (pv 2) pa_nil)) (pg_sub (pv 0) pe_int set_list))))))
    pss_nil)
  (pss_cons (ps_if (pt_cmpR op_eq (pe_ix ix_list (pv 0) pe_int (fun _ _ => rfl)) pe_int (nomark _))
    (pss_one (ps_ret (C8.pe_c c__law_mixed hr (by first | decide | omega) rfl (pa_cons (pe_ix ix_list (pv 0) pe_int (fun _ _ => rfl)) (pa_cons (pe_ix ix_list (pv 0) pe_int (fun _ _ => rfl)) (pa_cons (pv 1) pa_nil))))))
    pss_nil)
  (pss_cons (ps_set (i := 3) sc__law_take.nd rfl (Or.inl rfl) (pe_op op_mod (pe_callTy Wk.b_int (by rfl) T.b_int (by decide +kernel) (pa_cons (pe_ix ix_list (pv 0) pe_int (fun _ _ => rfl)) pa_nil)) (pv 1)))
  (pss_cons (ps_asg (pe_op op_fdivW (pe_callTy Wk.b_int (by rfl) T.b_int (by decide +kernel) (pa_cons (pe_ix ix_list (pv 0) pe_int (fun _ _ => rfl)) pa_nil)) (pv 1)) (pg_sub (pv 0) pe_int set_list))
  (pss_one (ps_ret (pv 3))))))))), ?_⟩
    walk_at "s"
    refine w_ixL (SqL.of h1) rfl ?_
    walk_at "s"
    refine w_setI h1 rfl fun H2 g2 => ?_
    walk_at "s"
    have a2 : H2 st = some (.lst [.ref c, .int i, .int b, .int (t + 1), .int z]) := g2.at_
    have e2 : H2 c = some (.lst (ns.map V.int)) := g2.keep.at1 ne h2
    refine w_ite (fun q1 => ?_) (fun q1 => ?_)
    · walk_at "s"
      exact k 0 H2 ⟨by omega, .inr rfl⟩ (store_chg g2 h2 ne hi hb hz0 hz1) g2.keep
    · walk_at "s"
      refine w_cut (fun σ H3 => Upt [st] H H3 ∧ H3 c = some (.lst (ns.map V.int)) ∧ ∃ (i b : Int) (v : Option V), 0 ≤ i ∧ 0 ≤ b ∧ H3 st = some (.lst [.ref c, .int i, .int b, .int (t + 1), .int z]) ∧ σ = [some (.ref st), some (.int m), v, none]) ?_ ?_
      · walk_at "s"
        refine w_ixL (SqL.of a2) rfl ?_
        walk_at "s"
        refine w_ite (fun q2 => ?_) (fun q2 => ?_)
        · walk_at "s"
          refine w_ixL (SqL.of a2) rfl ?_
          walk_at "s"
          refine w_ixL (SqL.of a2) rfl ?_
          walk_at "s"
          refine c_lenL (SqL.of e2) ?_
          walk_at "s"
          rw [List.length_map]
          refine w_ite (fun q3 => ?_) (fun q3 => ?_)
          · obtain ⟨n, hn, hat⟩ := atI_ints hi q3
            walk_at "s"
            refine w_ixL (SqL.of a2) rfl ?_
            walk_at "s"
            refine w_ixL (SqL.of a2) rfl ?_
            walk_at "s"
            refine w_ixL (SqL.of e2) hat ?_
            walk_at "s"
            refine w_ixL (SqL.of a2) rfl ?_
            walk_at "s"
            refine w_setI a2 rfl fun H3 g3 => ?_
            walk_at "s"
            have a3 : H3 st = some (.lst [.ref c, .int (i + 1), .int b, .int (t + 1), .int z]) := g3.at_
            have e3 : H3 c = some (.lst (ns.map V.int)) := g3.keep.at1 ne e2
            refine w_ite (fun q4 => ?_) (fun q4 => ?_)
            · walk_at "s"
              refine w_ixL (SqL.of a3) rfl ?_
              walk_at "s"
              refine u_mixed (by omega) fun v hv0 hv1 => ?_
              exact k v H3 ⟨hv0, .inl hv1⟩ ⟨ns, _, _, _, _, a3, e3, by omega, hb, hz0, hz1⟩ (g2.keep.trans g3.keep)
            · walk_at "s"
              refine w_setI a3 rfl fun H4 g4 => ?_
              walk_at "s"
              have hb4 : 0 ≤ (if n < 0 then -n else n) := by split <;> omega
              exact ⟨(g2.keep.trans g3.keep).trans g4.keep, g4.keep.at1 ne e3, _, _, _, by omega, hb4, g4.at_, rfl⟩
          · walk_at "s"
            exact ⟨g2.keep, e2, _, _, _, hi, hb, a2, rfl⟩
        · walk_at "s"
          exact ⟨g2.keep, e2, _, _, _, hi, hb, a2, rfl⟩
      · rintro σ H3 ⟨u3, e3, i3, b3, v, hi3, hb3, a3, rfl⟩
        walk_at "s"
        refine w_ixL (SqL.of a3) rfl ?_
        walk_at "s"
        refine w_ite (fun q2 => ?_) (fun q2 => ?_)
        · walk_at "s"
          refine w_ixL (SqL.of a3) rfl ?_
          walk_at "s"
          refine w_ixL (SqL.of a3) rfl ?_
          walk_at "s"
          refine u_mixed (by omega) fun v hv0 hv1 => ?_
          exact k v H3 ⟨hv0, .inl hv1⟩ ⟨ns, _, _, _, _, a3, e3, hi3, hb3, hz0, hz1⟩ u3
        · walk_at "s"
          refine w_ixL (SqL.of a3) rfl ?_
          walk_at "s"
          refine w_ixL (SqL.of a3) rfl ?_
          walk_at "s"
          refine w_setI a3 rfl fun H4 g4 => ?_
          walk_at "s"
          exact k _ H4 ⟨Int.emod_nonneg _ (by omega), .inl (Int.emod_lt_of_pos _ (by omega))⟩ ⟨ns, _, _, _, _, g4.at_, g4.keep.at1 ne e3, hi3, Int.ediv_nonneg hb3 (by omega), hz0, hz1⟩ (u3.trans g4.keep)
theorem u_take {st c : Addr} {m : Int} {H : Hp} {Q : VK} {E : XK} (S : StoreAt H st c) (hm : m ≤ 4611686018427387904) (q : ∀ k H', 0 ≤ k ∧ (k < m ∨ k = 0) → StoreAt H' st c → Upt [st] H H' → Q (.int k) H') : sp_take [.ref st, .int m] H Q E :=
  ⟨st, c, m, rfl, S, hm, q⟩
end
end K46
set_option Elab.async false
set_option linter.all false
set_option maxRecDepth 100000
set_option maxHeartbeats 4000000
namespace K46
open PySem PySem.Spec PyProof.Rows L2 Wk
local macro_rules | `(tactic| walk_at "u1") => `(tactic| fail "no more")
local macro_rules | `(tactic| walk_at "pos") => `(tactic| first | assumption | omega | decide | (simp only [Int.ofNat_eq_natCast] at *; omega))
local macro_rules | `(tactic| walk_at "sz") => `(tactic| first
  | (simp only [List.length_cons, List.length_nil]; decide)
  | exact Evl.sz_of (by omega)
  | exact Evl.sz_lt (by omega)
  | exact Evl.sz_of (by simp only [List.length_map, List.length_append, List.length_cons, List.length_nil, List.length_replicate]; omega)
  | exact Evl.sz_lt (by simp only [List.length_map, List.length_append, List.length_cons, List.length_nil, List.length_replicate]; omega))
local macro_rules | `(tactic| walk_at "cond") => `(tactic| first
  | exact Or.inr ⟨by decide, by decide⟩
  | (show (0 : Int) < _; first | decide | assumption | omega)
  | exact Or.inl ⟨by omega, by omega⟩
  | exact Or.inr ⟨by omega, by omega⟩
  | exact ⟨by decide, by decide, by decide⟩
  | exact log2_lt (by omega) (by omega)
  | exact ⟨by omega, by omega⟩)
local macro_rules | `(tactic| walk_at "ty") => `(tactic| first
  | exact ty_int | exact ty_bl | exact ty_str | exact ty_non
  | exact ty_L (by assumption) | exact ty_T (by assumption)
  | exact ty_L (SqL.of (by assumption)) | exact ty_T (SqT.of (by assumption)))
local macro_rules | `(tactic| walk_at "kit") => `(tactic| first
  | exact k_ii | exact k_ib | exact k_is | exact k_il | exact k_it
  | exact k_bb | exact k_bi | exact k_bs | exact k_bl | exact k_bt
  | exact k_ss | exact k_sb | exact k_si | exact k_sl | exact k_st
  | exact k_ll | exact k_lb | exact k_li | exact k_ls | exact k_lt
  | exact k_tt | exact k_tb | exact k_ti | exact k_ts | exact k_tl
  | exact k_nn | exact k_ni | exact k_ns | exact k_nl | exact k_nt)
local macro_rules | `(tactic| walk_at "s1") => `(tactic| first
  | with_reducible refine w_seq ?_
  | with_reducible refine w_set ?_
  | with_reducible refine w_op ?_
  | ((with_reducible refine' w_var ?h1 ?_); (case h1 => rfl))
  | with_reducible refine w_c ?_
  | with_reducible refine w_cb ?_
  | with_reducible refine w_cons ?_
  | with_reducible refine w_nil ?_
  | with_reducible refine w_I0 ?_
  | ((with_reducible refine' w_I ?c1 ?_); case c1 => walk_at "cond")
  | with_reducible refine w_ret ?_
  | with_reducible refine w_next ?_
  | with_reducible refine w_ifS ?_
  | with_reducible refine w_test ?_
  | with_reducible refine w_tB ?_
  | with_reducible refine w_k ?_
  | with_reducible refine w_eqI ?_
  | with_reducible refine w_neI ?_
  | with_reducible refine w_eqS ?_
  | with_reducible refine w_neS ?_
  | with_reducible refine w_and ?_
  | with_reducible refine w_or ?_
  | with_reducible refine w_not ?_
  | with_reducible refine w_andV ?_
  | with_reducible refine w_orV ?_
  | with_reducible refine w_notV ?_
  | with_reducible refine w_ifE ?_
  | with_reducible refine w_true ?_
  | with_reducible refine w_false ?_
  | with_reducible refine w_ntrue ?_
  | with_reducible refine w_nfalse ?_
  | with_reducible refine w_call ?_
  | with_reducible refine c_int ?_
  | with_reducible refine c_abs ?_
  | with_reducible refine c_max ?_
  | with_reducible refine c_min ?_
  | with_reducible refine w_drop ?_
  | with_reducible refine w_sfld ?_
  | with_reducible refine w_meth ?_
  | with_reducible refine w_make ?_
  | with_reducible refine w_prop ?_
  | with_reducible refine w_callK ?_
  | with_reducible refine w_callN ?_
  | with_reducible refine w_star ?_
  | with_reducible refine w_gcons ?_
  | with_reducible refine w_gname ?_
  | with_reducible refine w_gnil ?_
  | with_reducible refine w_retN ?_
  | with_reducible refine w_tup ?_
  | with_reducible refine w_lst ?_
  | with_reducible refine w_fld ?_
  | with_reducible refine w_bm ?_
  | with_reducible refine w_bm0 ?_
  | with_reducible refine w_forL ?_
  | with_reducible refine w_forT ?_
  | with_reducible refine w_forS ?_
  | with_reducible refine w_forR ?_
  | with_reducible refine w_lcR ?_
  | with_reducible refine w_lcL ?_
  | with_reducible refine w_lcT ?_
  | with_reducible refine w_isN ?_
  | with_reducible refine w_notN ?_
  | with_reducible refine w_asg ?_
  | with_reducible refine w_gsub ?_
  | ((with_reducible refine' w_aug ?h1 ?_); (case h1 => rfl))
  | with_reducible refine w_augS ?_
  | with_reducible refine w_ipI ?_
  | with_reducible refine w_un ?_
  | with_reducible refine w_U ?_
  | ((with_reducible refine' w_iteF ?f1 ?_); case f1 => (first | (intro h; cases h; done) | decide))
  | ((with_reducible refine' w_iteT ?f1 ?_); case f1 => rfl)
  | ((with_reducible refine' w_iteNF ?f1 ?_); case f1 => rfl)
  | ((with_reducible refine' w_iteNT ?f1 ?_); case f1 => (first | (intro h; cases h; done) | decide))
  | ((with_reducible refine' c_isi ?t1 ?k1 ?_); (case t1 => walk_at "ty"); (case k1 => walk_at "kit"))
  | ((with_reducible refine' w_eq ?e1 ?_); case e1 => rfl)
  | ((with_reducible refine' w_ne ?e1 ?_); case e1 => rfl)
  | walk_at "u1")
local macro_rules | `(tactic| walk_at "s") => `(tactic| repeat walk_at "s1")
local macro_rules | `(tactic| walk_at "mem") => `(tactic| first | with_reducible exact List.mem_cons_self .. | ((with_reducible refine' List.mem_cons_of_mem _ ?q); (case q => walk_at "mem")) | assumption | ((with_reducible refine' List.mem_append_right _ ?q); (case q => walk_at "mem")) | (exact List.mem_append_left _ (by assumption)))
local macro_rules | `(tactic| walk_at "pk") => `(tactic| first | with_reducible exact Pk.here | ((with_reducible refine' Pk.there ?q); (case q => walk_at "pk")) | ((with_reducible refine' Pk.app ?q); (case q => walk_at "pk")))
local macro_rules | `(tactic| walk_at "pkb") => `(tactic| first | with_reducible exact PkB.here | ((with_reducible refine' PkB.there ?q); (case q => walk_at "pkb")) | ((with_reducible refine' PkB.app ?q); (case q => walk_at "pkb")))
local macro_rules | `(tactic| walk_at "spl") => `(tactic| first | with_reducible exact Spl.nil | ((with_reducible refine' Spl.cons ?h ?t); (case h => walk_at "pk"); (case t => walk_at "spl")) | ((with_reducible refine' Spl.blk ?h ?t); (case h => walk_at "pkb"); (case t => walk_at "spl")))
local macro_rules | `(tactic| walk_at "sbx") => `(tactic| first | with_reducible exact Sb.refl | with_reducible exact Sb.nil | with_reducible exact Sb.left | ((with_reducible refine' Sb.cons ?h ?t); (case h => walk_at "pk"); (case t => walk_at "sbx")) | ((with_reducible refine' Sb.blk ?h ?t); (case h => walk_at "pkb"); (case t => walk_at "sbx")) | ((with_reducible refine' Sb.drop ?q); (case q => walk_at "sbx")) | ((with_reducible refine' Sb.right ?q); (case q => walk_at "sbx")))
local macro_rules | `(tactic| walk_at "hd") => `(tactic| first | assumption | exact Hd.sb (by assumption) (by walk_at "sbx"))
local macro_rules | `(tactic| walk_at "sq") => `(tactic| first
  | assumption
  | exact Hd.sqL (by assumption) (by walk_at "mem")
  | exact Hd.sqT (by assumption) (by walk_at "mem")
  | exact Hd.sqF (by assumption) (by walk_at "mem")
  | (refine .inl ?_; walk_at "sq")
  | (refine .inr ?_; walk_at "sq"))
local macro_rules | `(tactic| walk_at "at") => `(tactic| first | rfl | assumption | exact atI_nat (by assumption))
local macro_rules | `(tactic| walk_at "dn1") => `(tactic| first
  | exact Dn.int | exact Dn.str | exact Dn.non | exact Dn.bl | assumption
  | ((refine' Dn.tp ?a1 ?m1 ?l1 ?p1); (case a1 => assumption); (case m1 => walk_at "mem"); (case l1 => (simp only [List.length_cons, List.length_nil]; omega)); (case p1 => walk_at "dns"))
  | ((refine' Dn.lt ?a1 ?m1 ?l1 ?p1); (case a1 => assumption); (case m1 => walk_at "mem"); (case l1 => (simp only [List.length_cons, List.length_nil]; omega)); (case p1 => walk_at "dns")))
local macro_rules | `(tactic| walk_at "dns") => `(tactic| first | exact Paired.nil | exact Dn.ints | ((refine' Paired.cons ?a1 ?b1); (case a1 => walk_at "dn1"); (case b1 => walk_at "dns")))
local macro_rules | `(tactic| walk_at "g1") => `(tactic| first
  | ((with_reducible refine' g_ixI ?h1 ?h2 ?h3 ?_); (case h1 => assumption); (case h2 => walk_at "mem"); (case h3 => omega); intro z hz)
  | ((with_reducible refine' g_ixIT ?h1 ?h2 ?h3 ?_); (case h1 => assumption); (case h2 => walk_at "mem"); (case h3 => omega); intro z hz)
  | ((with_reducible refine' g_setI ?h1 ?h2 ?h3 ?_); (case h1 => assumption); (case h2 => walk_at "pk"); (case h3 => omega); intro H2 hh2)
  | ((with_reducible refine' w_ixL ?h1 ?h2 ?_); (case h1 => walk_at "sq"); (case h2 => walk_at "at"))
  | ((with_reducible refine' w_ixT ?h1 ?h2 ?_); (case h1 => walk_at "sq"); (case h2 => walk_at "at"))
  | ((with_reducible refine' w_ixAny ?h1 ?h2 ?_); (case h1 => walk_at "sq"); (case h2 => walk_at "at"))
  | ((with_reducible refine' c_lenA ?h1 ?_); (case h1 => walk_at "sq"))
  | ((with_reducible refine' c_isi ?t1 ?k1 ?_); (case t1 => first | exact ty_T (by walk_at "sq") | exact ty_L (by walk_at "sq")); (case k1 => walk_at "kit"))
  | ((with_reducible refine' g_lst ?h1 ?h2 ?_); (case h1 => assumption); (case h2 => walk_at "sz"); intro p H2 hh2)
  | ((with_reducible refine' g_tup ?h1 ?h2 ?_); (case h1 => assumption); (case h2 => walk_at "sz"); intro p H2 hh2)
  | ((with_reducible refine' g_dict ?h1 ?_); (case h1 => assumption); intro p H2 hh2)
  | ((with_reducible refine' g_listL ?h1 ?h2 ?_); (case h1 => assumption); (case h2 => walk_at "sq"); intro p H2 hh2)
  | ((with_reducible refine' g_listT ?h1 ?h2 ?_); (case h1 => assumption); (case h2 => walk_at "sq"); intro p H2 hh2)
  | ((with_reducible refine' g_tupL ?h1 ?h2 ?_); (case h1 => assumption); (case h2 => walk_at "sq"); intro p H2 hh2)
  | ((with_reducible refine' g_set ?h1 ?h2 ?h3 ?_); (case h1 => assumption); (case h2 => walk_at "pk"); (case h3 => first | rfl | assumption | exact Evl.ixN_nat (by first | omega | (simp only [List.length_cons, List.length_nil]; omega))); intro H2 hh2)
  | ((with_reducible refine' g_kbm ?h1 ?h2 ?_); (case h1 => assumption); (case h2 => walk_at "mem"))
  | ((with_reducible refine' g_kbm0 ?h1 ?h2 ?_); (case h1 => assumption); (case h2 => walk_at "mem"))
  | ((with_reducible refine' g_app ?h1 ?h2 ?h3 ?_); (case h1 => assumption); (case h2 => walk_at "pk"); (case h3 => walk_at "sz"); intro H2 hh2)
  | ((with_reducible refine' g_kapp ?h1 ?h2 ?h3 ?_); (case h1 => assumption); (case h2 => walk_at "pk"); (case h3 => walk_at "sz"); intro H2 hh2)
  | ((with_reducible refine' g_fld ?h1 ?h2 ?h3 ?h4 ?h5 ?_); (case h1 => assumption); (case h2 => walk_at "mem"); (case h3 => assumption); (case h4 => assumption); (case h5 => rfl))
  | ((with_reducible refine' g_sfld ?h1 ?h2 ?h3 ?h4 ?h5 ?_); (case h1 => assumption); (case h2 => walk_at "pk"); (case h3 => assumption); (case h4 => assumption); (case h5 => decide); intro H2 hh2)
  | ((with_reducible refine' g_meth ?h1 ?h2 ?h3 ?_); (case h1 => assumption); (case h2 => walk_at "mem"); (case h3 => rfl))
  | ((with_reducible refine' g_prop ?h1 ?h2 ?_); (case h1 => assumption); (case h2 => walk_at "mem"))
  | ((with_reducible refine' g_make ?h1 ?_); (case h1 => assumption); intro x H2 hh2)
  | ((with_reducible refine' g_cat ?h1 ?h2 ?h3 ?h4 ?_); (case h1 => assumption); (case h2 => walk_at "mem"); (case h3 => walk_at "mem"); (case h4 => walk_at "sz"); intro p H2 hh2)
  | ((with_reducible refine' g_inT ?h1 ?h2 ?h3 ?h4 ?h5 ?_); (case h1 => assumption); (case h2 => walk_at "mem"); (case h3 => rfl); (case h4 => rfl); (case h5 => rfl)))
local macro_rules | `(tactic| walk_at "gs") => `(tactic| repeat first | walk_at "s1" | walk_at "g1")
local macro_rules | `(tactic| walk_at "ite") => `(tactic| first
  | ((with_reducible refine' w_iteT ?h1 ?_); (case h1 => omega))
  | ((with_reducible refine' w_iteF ?h1 ?_); (case h1 => omega))
  | (with_reducible refine w_ite ?_ ?_ <;> intro hq)
  | ((with_reducible refine' w_iteNT ?h1 ?_); (case h1 => omega))
  | ((with_reducible refine' w_iteNF ?h1 ?_); (case h1 => omega))
  | (with_reducible refine w_iteN ?_ ?_ <;> intro hq))
local macro_rules | `(tactic| walk_at "go") => `(tactic| repeat' first | walk_at "s1" | walk_at "g1" | walk_at "ite")
section
variable {P : Program} {w : World} {K : PySem.W.Frag} {mg : Str → Option Value} {base : Heap} {aREG aOPS : Addr}
def sp_pick (K : PySem.W.Frag) : Sp := fun vs H Q _ => ∃ (st c r : Addr) (xs : List V), vs = [.ref st, .ref r] ∧ StoreAt H st c ∧ SqL K H r xs ∧ r ≠ st ∧ 0 < xs.length ∧ xs.length ≤ 100000 ∧
  ∀ v H', v ∈ xs → StoreAt H' st c → Upt [st] H H' → Q v H'
theorem c_pick (T : Txt K mg aREG aOPS) (d : DefAt K mg "_law_pick" s__law_pick) (c__law_take : C8.Cal P w K mg base 2 "_law_take" sp_take []) : C8.Cal P w K mg base 3 "_law_pick" (sp_pick K) [] := by
  refine mk d sc__law_pick (fun _ _ _ _ _ _ us hl => match us, hl with | [_, _], _ => rfl) (fun vs H Q E h => ?_) (fun f cdv A outer s H vs Q E hr h => ?_)
  · obtain ⟨st, c, r, xs, rfl, _⟩ := h
    rfl
  · obtain ⟨st, c, r, xs, rfl, S, hr1, hne, h0, h1, k⟩ := h
    refine ⟨_, (pss_one (ps_ret (pe_ix ix_list (pv 1) (C8.pe_c c__law_take hr (by first | decide | omega) rfl (pa_cons (pv 0) (pa_cons (pe_callB Wk.b_len (by rfl) T.b_len (by decide +kernel) (pa_cons (pv 1) pa_nil)) pa_nil))) (fun _ _ => rfl)))), ?_⟩
    walk_at "s"
    refine c_lenL hr1 ?_
    walk_at "s"
    refine u_take S (by omega) fun n H2 hn S2 U2 => ?_
    walk_at "s"
    obtain ⟨j, rfl⟩ := Int.eq_ofNat_of_zero_le hn.1
    have hj : j < xs.length := by omega
    refine w_ixL (Upt.seqL U2 (by simpa using hne) hr1) (atI_nat (List.getElem?_eq_getElem hj)) ?_
    exact k _ H2 (List.getElem_mem hj) S2 U2
theorem u_pick {st c r : Addr} {xs : List V} {H : Hp} {Q : VK} {E : XK} (S : StoreAt H st c) (hr : SqL K H r xs) (hne : r ≠ st) (h0 : 0 < xs.length) (h1 : xs.length ≤ 100000) (q : ∀ v H', v ∈ xs → StoreAt H' st c → Upt [st] H H' → Q v H') : sp_pick K [.ref st, .ref r] H Q E :=
  ⟨st, c, r, xs, rfl, S, hr, hne, h0, h1, q⟩
def sp_between : Sp := fun vs H Q _ => ∃ (st c : Addr) (lo hi : Int), vs = [.ref st, .int lo, .int hi] ∧ StoreAt H st c ∧ lo ≤ hi ∧ hi - lo < 4611686018427387904 ∧ Drawn st c H (fun k => lo ≤ k ∧ k ≤ hi) Q
theorem c_between (T : Txt K mg aREG aOPS) (d : DefAt K mg "_law_between" s__law_between) (c__law_take : C8.Cal P w K mg base 2 "_law_take" sp_take []) : C8.Cal P w K mg base 3 "_law_between" sp_between [] := by
  refine mk d sc__law_between (fun _ _ _ _ _ _ us hl => match us, hl with | [_, _, _], _ => rfl) (fun vs H Q E h => ?_) (fun f cdv A outer s H vs Q E hr h => ?_)
  · obtain ⟨st, c, lo, hi, rfl, _⟩ := h
    rfl
  · obtain ⟨st, c, lo, hi, rfl, S, h0, h1, k⟩ := h
    refine ⟨_, (pss_cons (ps_set (i := 3) sc__law_between.nd rfl (Or.inl rfl) (pe_op op_add (pe_op op_sub (pv 2) (pv 1)) pe_int))
  (pss_cons (ps_set (i := 4) sc__law_between.nd rfl (Or.inl rfl) (C8.pe_c c__law_take hr (by first | decide | omega) rfl (pa_cons (pv 0) (pa_cons pe_int pa_nil))))
  (pss_cons (ps_if (pt_cmpR op_eq (pv 4) pe_int (nomark _))
    (pss_one (ps_ret (pe_op op_add (pv 1) (C8.pe_c c__law_take hr (by first | decide | omega) rfl (pa_cons (pv 0) (pa_cons (pe_callB (Wk.b_min rfl) (by rfl) T.b_min (by decide +kernel) (pa_cons (pv 3) (pa_cons pe_int pa_nil))) pa_nil))))))
    pss_nil)
  (pss_cons (ps_if (pt_cmpR op_eq (pv 4) pe_int (nomark _))
    (pss_one (ps_ret (pe_op op_sub (pv 2) (C8.pe_c c__law_take hr (by first | decide | omega) rfl (pa_cons (pv 0) (pa_cons (pe_callB (Wk.b_min rfl) (by rfl) T.b_min (by decide +kernel) (pa_cons (pv 3) (pa_cons pe_int pa_nil))) pa_nil))))))
    pss_nil)
  (pss_one (ps_ret (pe_op op_add (pv 1) (C8.pe_c c__law_take hr (by first | decide | omega) rfl (pa_cons (pv 0) (pa_cons (pv 3) pa_nil)))))))))), ?_⟩
    walk_at "s"
    refine u_take S (by omega) fun n H2 hn S2 U2 => ?_
    walk_at "s"
    refine w_ite (fun q1 => ?_) (fun q1 => ?_)
    · walk_at "s"
      refine u_take S2 (by split <;> omega) fun n2 H3 hn2 S3 U3 => ?_
      walk_at "s"
      exact k _ H3 (by have := hn2.2; split at this <;> omega) S3 (U2.trans U3)
    · walk_at "s"
      refine w_ite (fun q2 => ?_) (fun q2 => ?_)
      · walk_at "s"
        refine u_take S2 (by split <;> omega) fun n2 H3 hn2 S3 U3 => ?_
        walk_at "s"
        exact k _ H3 (by have := hn2.2; split at this <;> omega) S3 (U2.trans U3)
      · walk_at "s"
        refine u_take S2 (by omega) fun n2 H3 hn2 S3 U3 => ?_
        walk_at "s"
        exact k _ H3 (by omega) S3 (U2.trans U3)
theorem u_between {st c : Addr} {lo hi : Int} {H : Hp} {Q : VK} {E : XK} (S : StoreAt H st c) (h0 : lo ≤ hi) (h1 : hi - lo < 4611686018427387904) (q : ∀ k H', lo ≤ k ∧ k ≤ hi → StoreAt H' st c → Upt [st] H H' → Q (.int k) H') : sp_between [.ref st, .int lo, .int hi] H Q E :=
  ⟨st, c, lo, hi, rfl, S, h0, h1, q⟩
def sp_size : Sp := fun vs H Q _ => ∃ (st c : Addr) (m : Int), vs = [.ref st, .int m] ∧ StoreAt H st c ∧ 0 ≤ m ∧ m ≤ 1000000 ∧ Drawn st c H (fun k => 0 ≤ k ∧ k ≤ m) Q
theorem c_size (T : Txt K mg aREG aOPS) (d : DefAt K mg "_law_size" s__law_size) (c__law_take : C8.Cal P w K mg base 2 "_law_take" sp_take []) : C8.Cal P w K mg base 3 "_law_size" sp_size [] := by
  refine mk d sc__law_size (fun _ _ _ _ _ _ us hl => match us, hl with | [_, _], _ => rfl) (fun vs H Q E h => ?_) (fun f cdv A outer s H vs Q E hr h => ?_)
  · obtain ⟨st, c, m, rfl, _⟩ := h
    rfl
  · obtain ⟨st, c, m, rfl, S, h0, h1, k⟩ := h
    refine ⟨_, (pss_cons (ps_set (i := 2) sc__law_size.nd rfl (Or.inl rfl) (C8.pe_c c__law_take hr (by first | decide | omega) rfl (pa_cons (pv 0) (pa_cons pe_int pa_nil))))
  (pss_cons (ps_if (pt_cmpR op_eq (pv 2) pe_int (nomark _))
    (pss_one (ps_ret pe_int))
    pss_nil)
  (pss_cons (ps_if (pt_cmpR op_eq (pv 2) pe_int (nomark _))
    (pss_one (ps_ret (pv 1)))
    pss_nil)
  (pss_cons (ps_if (pt_cmpR op_eq (pv 2) pe_int (nomark _))
    (pss_one (ps_ret (pe_callB (Wk.b_max rfl) (by rfl) T.b_max (by decide +kernel) (pa_cons pe_int (pa_cons (pe_op op_sub (pv 1) pe_int) pa_nil)))))
    pss_nil)
  (pss_cons (ps_if (pt_cmpR op_eq (pv 2) pe_int (nomark _))
    (pss_one (ps_ret (C8.pe_c c__law_take hr (by first | decide | omega) rfl (pa_cons (pv 0) (pa_cons (pe_op op_add (pv 1) pe_int) pa_nil)))))
    pss_nil)
  (pss_one (ps_ret (C8.pe_c c__law_take hr (by first | decide | omega) rfl (pa_cons (pv 0) (pa_cons (pe_op op_add (pe_callB (Wk.b_min rfl) (by rfl) T.b_min (by decide +kernel) (pa_cons (pv 1) (pa_cons pe_int pa_nil))) pe_int) pa_nil)))))))))), ?_⟩
    walk_at "s"
    refine u_take S (by omega) fun n H2 hn S2 U2 => ?_
    walk_at "s"
    refine w_ite (fun q1 => ?_) (fun q1 => ?_)
    · walk_at "s"
      exact k _ H2 (by omega) S2 U2
    · walk_at "s"
      refine w_ite (fun q2 => ?_) (fun q2 => ?_)
      · walk_at "s"
        exact k _ H2 (by omega) S2 U2
      · walk_at "s"
        refine w_ite (fun q3 => ?_) (fun q3 => ?_)
        · walk_at "s"
          exact k _ H2 (by split <;> omega) S2 U2
        · walk_at "s"
          refine w_ite (fun q4 => ?_) (fun q4 => ?_)
          · walk_at "s"
            refine u_take S2 (by omega) fun n2 H3 hn2 S3 U3 => ?_
            exact k _ H3 (by omega) S3 (U2.trans U3)
          · walk_at "s"
            refine u_take S2 (by split <;> omega) fun n2 H3 hn2 S3 U3 => ?_
            exact k _ H3 (by have := hn2.2; split at this <;> omega) S3 (U2.trans U3)
theorem u_size {st c : Addr} {m : Int} {H : Hp} {Q : VK} {E : XK} (S : StoreAt H st c) (h0 : 0 ≤ m) (h1 : m ≤ 1000000) (q : ∀ k H', 0 ≤ k ∧ k ≤ m → StoreAt H' st c → Upt [st] H H' → Q (.int k) H') : sp_size [.ref st, .int m] H Q E :=
  ⟨st, c, m, rfl, S, h0, h1, q⟩
def sp_word : Sp := fun vs H Q _ => ∃ (st c : Addr), vs = [.ref st] ∧ StoreAt H st c ∧ Drawn st c H (fun k => 0 ≤ k ∧ k < 65536) Q
theorem c_word (T : Txt K mg aREG aOPS) (d : DefAt K mg "_law_word" s__law_word) (c__law_take : C8.Cal P w K mg base 2 "_law_take" sp_take []) (c__law_pick : C8.Cal P w K mg base 3 "_law_pick" (sp_pick K) []) : C8.Cal P w K mg base 4 "_law_word" sp_word [] := by
  refine mk d sc__law_word (fun _ _ _ _ _ _ us hl => match us, hl with | [_], _ => rfl) (fun vs H Q E h => ?_) (fun f cdv A outer s H vs Q E hr h => ?_)
  · obtain ⟨st, c, rfl, _⟩ := h
    rfl
  · obtain ⟨st, c, rfl, S, k⟩ := h
    refine ⟨_, (pss_cons (ps_set (i := 1) sc__law_word.nd rfl (Or.inl rfl) (C8.pe_c c__law_take hr (by first | decide | omega) rfl (pa_cons (pv 0) (pa_cons pe_int pa_nil))))
  (pss_cons (ps_if (pt_cmpR op_eq (pv 1) pe_int (nomark _))
    (pss_one (ps_ret (C8.pe_c c__law_pick hr (by first | decide | omega) rfl (pa_cons (pv 0) (pa_cons (pe_lst (pa_cons pe_int (pa_cons pe_int (pa_cons pe_int (pa_cons pe_int (pa_cons pe_int (pa_cons pe_int (pa_cons pe_int (pa_cons pe_int (pa_cons pe_int (pa_cons pe_int (pa_cons pe_int (pa_cons pe_int (pa_cons pe_int (pa_cons pe_int pa_nil))))))))))))))) pa_nil)))))
    pss_nil)
  (pss_cons (ps_if (pt_cmpR op_eq (pv 1) pe_int (nomark _))
    (pss_one (ps_ret (C8.pe_c c__law_take hr (by first | decide | omega) rfl (pa_cons (pv 0) (pa_cons pe_int pa_nil)))))
    pss_nil)
  (pss_one (ps_ret (C8.pe_c c__law_take hr (by first | decide | omega) rfl (pa_cons (pv 0) (pa_cons pe_int pa_nil)))))))), ?_⟩
    walk_at "s"
    refine u_take S (by omega) fun n H2 hn S2 U2 => ?_
    walk_at "s"
    refine w_ite (fun q1 => ?_) (fun q1 => ?_)
    · walk_at "s"
      refine w_new (by walk_at "sz") fun p H3 n3 => ?_
      walk_at "s"
      refine u_pick (S2.new n3) (SqL.of n3.at_) (S2.off n3).1 (by simp) (by simp) fun v H4 hv S4 U4 => ?_
      have hv2 : ∃ k : Int, v = .int k ∧ 0 ≤ k ∧ k < 65536 := by
        simp only [List.mem_cons, List.not_mem_nil, or_false] at hv
        rcases hv with h | h | h | h | h | h | h | h | h | h | h | h | h | h <;> exact ⟨_, h, by omega, by omega⟩
      obtain ⟨z, rfl, hz⟩ := hv2
      exact k z H4 hz S4 ((U2.trans (n3.keep.mono (by simp))).trans U4)
    · walk_at "s"
      refine w_ite (fun q2 => ?_) (fun q2 => ?_)
      · walk_at "s"
        refine u_take S2 (by omega) fun n2 H3 hn2 S3 U3 => ?_
        exact k _ H3 (by omega) S3 (U2.trans U3)
      · walk_at "s"
        refine u_take S2 (by omega) fun n2 H3 hn2 S3 U3 => ?_
        exact k _ H3 (by omega) S3 (U2.trans U3)
theorem u_word {st c : Addr} {H : Hp} {Q : VK} {E : XK} (S : StoreAt H st c) (q : ∀ k H', 0 ≤ k ∧ k < 65536 → StoreAt H' st c → Upt [st] H H' → Q (.int k) H') : sp_word [.ref st] H Q E :=
  ⟨st, c, rfl, S, q⟩
end
end K46
set_option Elab.async false
set_option linter.all false
set_option maxRecDepth 100000
set_option maxHeartbeats 4000000
namespace K46
open PySem PySem.Spec PyProof.Rows L2 Wk
local macro_rules | `(tactic| walk_at "u1") => `(tactic| fail "no more")
local macro_rules | `(tactic| walk_at "pos") => `(tactic| first | assumption | omega | decide | (simp only [Int.ofNat_eq_natCast] at *; omega))
local macro_rules | `(tactic| walk_at "sz") => `(tactic| first
  | (simp only [List.length_cons, List.length_nil]; decide)
  | exact Evl.sz_of (by omega)
  | exact Evl.sz_lt (by omega)
  | exact Evl.sz_of (by simp only [List.length_map, List.length_append, List.length_cons, List.length_nil, List.length_replicate]; omega)
  | exact Evl.sz_lt (by simp only [List.length_map, List.length_append, List.length_cons, List.length_nil, List.length_replicate]; omega))
local macro_rules | `(tactic| walk_at "cond") => `(tactic| first
  | exact Or.inr ⟨by decide, by decide⟩
  | (show (0 : Int) < _; first | decide | assumption | omega)
  | exact Or.inl ⟨by omega, by omega⟩
  | exact Or.inr ⟨by omega, by omega⟩
  | exact ⟨by decide, by decide, by decide⟩
  | exact log2_lt (by omega) (by omega)
  | exact ⟨by omega, by omega⟩)
local macro_rules | `(tactic| walk_at "ty") => `(tactic| first
  | exact ty_int | exact ty_bl | exact ty_str | exact ty_non
  | exact ty_L (by assumption) | exact ty_T (by assumption)
  | exact ty_L (SqL.of (by assumption)) | exact ty_T (SqT.of (by assumption)))
local macro_rules | `(tactic| walk_at "kit") => `(tactic| first
  | exact k_ii | exact k_ib | exact k_is | exact k_il | exact k_it
  | exact k_bb | exact k_bi | exact k_bs | exact k_bl | exact k_bt
  | exact k_ss | exact k_sb | exact k_si | exact k_sl | exact k_st
  | exact k_ll | exact k_lb | exact k_li | exact k_ls | exact k_lt
  | exact k_tt | exact k_tb | exact k_ti | exact k_ts | exact k_tl
  | exact k_nn | exact k_ni | exact k_ns | exact k_nl | exact k_nt)
local macro_rules | `(tactic| walk_at "s1") => `(tactic| first
  | with_reducible refine w_seq ?_
  | with_reducible refine w_set ?_
  | with_reducible refine w_op ?_
  | ((with_reducible refine' w_var ?h1 ?_); (case h1 => rfl))
  | with_reducible refine w_c ?_
  | with_reducible refine w_cb ?_
  | with_reducible refine w_cons ?_
  | with_reducible refine w_nil ?_
  | with_reducible refine w_I0 ?_
  | ((with_reducible refine' w_I ?c1 ?_); case c1 => walk_at "cond")
  | with_reducible refine w_ret ?_
  | with_reducible refine w_next ?_
  | with_reducible refine w_ifS ?_
  | with_reducible refine w_test ?_
  | with_reducible refine w_tB ?_
  | with_reducible refine w_k ?_
  | with_reducible refine w_eqI ?_
  | with_reducible refine w_neI ?_
  | with_reducible refine w_eqS ?_
  | with_reducible refine w_neS ?_
  | with_reducible refine w_and ?_
  | with_reducible refine w_or ?_
  | with_reducible refine w_not ?_
  | with_reducible refine w_andV ?_
  | with_reducible refine w_orV ?_
  | with_reducible refine w_notV ?_
  | with_reducible refine w_ifE ?_
  | with_reducible refine w_true ?_
  | with_reducible refine w_false ?_
  | with_reducible refine w_ntrue ?_
  | with_reducible refine w_nfalse ?_
  | with_reducible refine w_call ?_
  | with_reducible refine c_int ?_
  | with_reducible refine c_abs ?_
  | with_reducible refine c_max ?_
  | with_reducible refine c_min ?_
  | with_reducible refine w_drop ?_
  | with_reducible refine w_sfld ?_
  | with_reducible refine w_meth ?_
  | with_reducible refine w_make ?_
  | with_reducible refine w_prop ?_
  | with_reducible refine w_callK ?_
  | with_reducible refine w_callN ?_
  | with_reducible refine w_star ?_
  | with_reducible refine w_gcons ?_
  | with_reducible refine w_gname ?_
  | with_reducible refine w_gnil ?_
  | with_reducible refine w_retN ?_
  | with_reducible refine w_tup ?_
  | with_reducible refine w_lst ?_
  | with_reducible refine w_fld ?_
  | with_reducible refine w_bm ?_
  | with_reducible refine w_bm0 ?_
  | with_reducible refine w_forL ?_
  | with_reducible refine w_forT ?_
  | with_reducible refine w_forS ?_
  | with_reducible refine w_forR ?_
  | with_reducible refine w_lcR ?_
  | with_reducible refine w_lcL ?_
  | with_reducible refine w_lcT ?_
  | with_reducible refine w_isN ?_
  | with_reducible refine w_notN ?_
  | with_reducible refine w_asg ?_
  | with_reducible refine w_gsub ?_
  | ((with_reducible refine' w_aug ?h1 ?_); (case h1 => rfl))
  | with_reducible refine w_augS ?_
  | with_reducible refine w_ipI ?_
  | with_reducible refine w_un ?_
  | with_reducible refine w_U ?_
  | ((with_reducible refine' w_iteF ?f1 ?_); case f1 => (first | (intro h; cases h; done) | decide))
  | ((with_reducible refine' w_iteT ?f1 ?_); case f1 => rfl)
  | ((with_reducible refine' w_iteNF ?f1 ?_); case f1 => rfl)
  | ((with_reducible refine' w_iteNT ?f1 ?_); case f1 => (first | (intro h; cases h; done) | decide))
  | ((with_reducible refine' c_isi ?t1 ?k1 ?_); (case t1 => walk_at "ty"); (case k1 => walk_at "kit"))
  | ((with_reducible refine' w_eq ?e1 ?_); case e1 => rfl)
  | ((with_reducible refine' w_ne ?e1 ?_); case e1 => rfl)
  | walk_at "u1")
local macro_rules | `(tactic| walk_at "s") => `(tactic| repeat walk_at "s1")
local macro_rules | `(tactic| walk_at "mem") => `(tactic| first | with_reducible exact List.mem_cons_self .. | ((with_reducible refine' List.mem_cons_of_mem _ ?q); (case q => walk_at "mem")) | assumption | ((with_reducible refine' List.mem_append_right _ ?q); (case q => walk_at "mem")) | (exact List.mem_append_left _ (by assumption)))
local macro_rules | `(tactic| walk_at "pk") => `(tactic| first | with_reducible exact Pk.here | ((with_reducible refine' Pk.there ?q); (case q => walk_at "pk")) | ((with_reducible refine' Pk.app ?q); (case q => walk_at "pk")))
local macro_rules | `(tactic| walk_at "pkb") => `(tactic| first | with_reducible exact PkB.here | ((with_reducible refine' PkB.there ?q); (case q => walk_at "pkb")) | ((with_reducible refine' PkB.app ?q); (case q => walk_at "pkb")))
local macro_rules | `(tactic| walk_at "spl") => `(tactic| first | with_reducible exact Spl.nil | ((with_reducible refine' Spl.cons ?h ?t); (case h => walk_at "pk"); (case t => walk_at "spl")) | ((with_reducible refine' Spl.blk ?h ?t); (case h => walk_at "pkb"); (case t => walk_at "spl")))
local macro_rules | `(tactic| walk_at "sbx") => `(tactic| first | with_reducible exact Sb.refl | with_reducible exact Sb.nil | with_reducible exact Sb.left | ((with_reducible refine' Sb.cons ?h ?t); (case h => walk_at "pk"); (case t => walk_at "sbx")) | ((with_reducible refine' Sb.blk ?h ?t); (case h => walk_at "pkb"); (case t => walk_at "sbx")) | ((with_reducible refine' Sb.drop ?q); (case q => walk_at "sbx")) | ((with_reducible refine' Sb.right ?q); (case q => walk_at "sbx")))
local macro_rules | `(tactic| walk_at "hd") => `(tactic| first | assumption | exact Hd.sb (by assumption) (by walk_at "sbx"))
local macro_rules | `(tactic| walk_at "sq") => `(tactic| first
  | assumption
  | exact Hd.sqL (by assumption) (by walk_at "mem")
  | exact Hd.sqT (by assumption) (by walk_at "mem")
  | exact Hd.sqF (by assumption) (by walk_at "mem")
  | (refine .inl ?_; walk_at "sq")
  | (refine .inr ?_; walk_at "sq"))
local macro_rules | `(tactic| walk_at "at") => `(tactic| first | rfl | assumption | exact atI_nat (by assumption))
local macro_rules | `(tactic| walk_at "dn1") => `(tactic| first
  | exact Dn.int | exact Dn.str | exact Dn.non | exact Dn.bl | assumption
  | ((refine' Dn.tp ?a1 ?m1 ?l1 ?p1); (case a1 => assumption); (case m1 => walk_at "mem"); (case l1 => (simp only [List.length_cons, List.length_nil]; omega)); (case p1 => walk_at "dns"))
  | ((refine' Dn.lt ?a1 ?m1 ?l1 ?p1); (case a1 => assumption); (case m1 => walk_at "mem"); (case l1 => (simp only [List.length_cons, List.length_nil]; omega)); (case p1 => walk_at "dns")))
local macro_rules | `(tactic| walk_at "dns") => `(tactic| first | exact Paired.nil | exact Dn.ints | ((refine' Paired.cons ?a1 ?b1); (case a1 => walk_at "dn1"); (case b1 => walk_at "dns")))
local macro_rules | `(tactic| walk_at "g1") => `(tactic| first
  | ((with_reducible refine' g_ixI ?h1 ?h2 ?h3 ?_); (case h1 => assumption); (case h2 => walk_at "mem"); (case h3 => omega); intro z hz)
  | ((with_reducible refine' g_ixIT ?h1 ?h2 ?h3 ?_); (case h1 => assumption); (case h2 => walk_at "mem"); (case h3 => omega); intro z hz)
  | ((with_reducible refine' g_setI ?h1 ?h2 ?h3 ?_); (case h1 => assumption); (case h2 => walk_at "pk"); (case h3 => omega); intro H2 hh2)
  | ((with_reducible refine' w_ixL ?h1 ?h2 ?_); (case h1 => walk_at "sq"); (case h2 => walk_at "at"))
  | ((with_reducible refine' w_ixT ?h1 ?h2 ?_); (case h1 => walk_at "sq"); (case h2 => walk_at "at"))
  | ((with_reducible refine' w_ixAny ?h1 ?h2 ?_); (case h1 => walk_at "sq"); (case h2 => walk_at "at"))
  | ((with_reducible refine' c_lenA ?h1 ?_); (case h1 => walk_at "sq"))
  | ((with_reducible refine' c_isi ?t1 ?k1 ?_); (case t1 => first | exact ty_T (by walk_at "sq") | exact ty_L (by walk_at "sq")); (case k1 => walk_at "kit"))
  | ((with_reducible refine' g_lst ?h1 ?h2 ?_); (case h1 => assumption); (case h2 => walk_at "sz"); intro p H2 hh2)
  | ((with_reducible refine' g_tup ?h1 ?h2 ?_); (case h1 => assumption); (case h2 => walk_at "sz"); intro p H2 hh2)
  | ((with_reducible refine' g_dict ?h1 ?_); (case h1 => assumption); intro p H2 hh2)
  | ((with_reducible refine' g_listL ?h1 ?h2 ?_); (case h1 => assumption); (case h2 => walk_at "sq"); intro p H2 hh2)
  | ((with_reducible refine' g_listT ?h1 ?h2 ?_); (case h1 => assumption); (case h2 => walk_at "sq"); intro p H2 hh2)
  | ((with_reducible refine' g_tupL ?h1 ?h2 ?_); (case h1 => assumption); (case h2 => walk_at "sq"); intro p H2 hh2)
  | ((with_reducible refine' g_set ?h1 ?h2 ?h3 ?_); (case h1 => assumption); (case h2 => walk_at "pk"); (case h3 => first | rfl | assumption | exact Evl.ixN_nat (by first | omega | (simp only [List.length_cons, List.length_nil]; omega))); intro H2 hh2)
  | ((with_reducible refine' g_kbm ?h1 ?h2 ?_); (case h1 => assumption); (case h2 => walk_at "mem"))
  | ((with_reducible refine' g_kbm0 ?h1 ?h2 ?_); (case h1 => assumption); (case h2 => walk_at "mem"))
  | ((with_reducible refine' g_app ?h1 ?h2 ?h3 ?_); (case h1 => assumption); (case h2 => walk_at "pk"); (case h3 => walk_at "sz"); intro H2 hh2)
  | ((with_reducible refine' g_kapp ?h1 ?h2 ?h3 ?_); (case h1 => assumption); (case h2 => walk_at "pk"); (case h3 => walk_at "sz"); intro H2 hh2)
  | ((with_reducible refine' g_fld ?h1 ?h2 ?h3 ?h4 ?h5 ?_); (case h1 => assumption); (case h2 => walk_at "mem"); (case h3 => assumption); (case h4 => assumption); (case h5 => rfl))
  | ((with_reducible refine' g_sfld ?h1 ?h2 ?h3 ?h4 ?h5 ?_); (case h1 => assumption); (case h2 => walk_at "pk"); (case h3 => assumption); (case h4 => assumption); (case h5 => decide); intro H2 hh2)
  | ((with_reducible refine' g_meth ?h1 ?h2 ?h3 ?_); (case h1 => assumption); (case h2 => walk_at "mem"); (case h3 => rfl))
  | ((with_reducible refine' g_prop ?h1 ?h2 ?_); (case h1 => assumption); (case h2 => walk_at "mem"))
  | ((with_reducible refine' g_make ?h1 ?_); (case h1 => assumption); intro x H2 hh2)
  | ((with_reducible refine' g_cat ?h1 ?h2 ?h3 ?h4 ?_); (case h1 => assumption); (case h2 => walk_at "mem"); (case h3 => walk_at "mem"); (case h4 => walk_at "sz"); intro p H2 hh2)
  | ((with_reducible refine' g_inT ?h1 ?h2 ?h3 ?h4 ?h5 ?_); (case h1 => assumption); (case h2 => walk_at "mem"); (case h3 => rfl); (case h4 => rfl); (case h5 => rfl)))
local macro_rules | `(tactic| walk_at "gs") => `(tactic| repeat first | walk_at "s1" | walk_at "g1")
local macro_rules | `(tactic| walk_at "ite") => `(tactic| first
  | ((with_reducible refine' w_iteT ?h1 ?_); (case h1 => omega))
  | ((with_reducible refine' w_iteF ?h1 ?_); (case h1 => omega))
  | (with_reducible refine w_ite ?_ ?_ <;> intro hq)
  | ((with_reducible refine' w_iteNT ?h1 ?_); (case h1 => omega))
  | ((with_reducible refine' w_iteNF ?h1 ?_); (case h1 => omega))
  | (with_reducible refine w_iteN ?_ ?_ <;> intro hq))
local macro_rules | `(tactic| walk_at "go") => `(tactic| repeat' first | walk_at "s1" | walk_at "g1" | walk_at "ite")
section
variable {P : Program} {w : World} {K : PySem.W.Frag} {mg : Str → Option Value} {base : Heap} {aREG aOPS : Addr}
/-! ### likeness -/
/-- two things of one datum, nested less than n deep, are alike -/
def sp_alike (K : PySem.W.Frag) (n : Nat) : Sp := fun vs H Q _ => ∃ (v1 v2 : V) (d : PyData), vs = [v1, v2] ∧ (match n with
  | 0 => False
  | n + 1 => Dn K [] H n v1 d ∧ Dn K [] H n v2 d) ∧ Q (.bl true) H
theorem alike_step (n : Nat) (T : Txt K mg aREG aOPS) (d : DefAt K mg "_law_alike" s__law_alike) (c__law_alike : C8.Cal P w K mg base n "_law_alike" (sp_alike K n) []) : C8.Cal P w K mg base (n + 1) "_law_alike" (sp_alike K (n + 1)) [] := by
  refine mk d sc__law_alike (fun _ _ _ _ _ _ us hl => match us, hl with | [_, _], _ => rfl) (fun vs H Q E h => ?_) (fun f cdv A outer s H vs Q E hr h => ?_)
  · obtain ⟨v1, v2, d, rfl, _⟩ := h
    rfl
  · obtain ⟨v1, v2, d, rfl, hd, k⟩ := h
    refine ⟨_, (pss_cons (ps_if (PW.pt (pw_or (pt_cmpR op_isN1 (pv 0) pe_non (nomark _)) (pw_or1 (pt_cmpR op_isN1 (pv 1) pe_non (nomark _)))))
    (pss_one (ps_ret (pe_and (pe_cmpR op_isN1 (pv 0) pe_non (nomark _)) (pe_one (pe_cmpR op_isN1 (pv 1) pe_non (nomark _))))))
    pss_nil)
  (pss_cons (ps_if (PW.pt (pw_or (pt_val (pe_callB call_isi (by rfl) T.b_isinstance (by decide +kernel) (pa_cons (pv 0) (pa_cons (pe_bltn (v := .ty "bool") (by rfl) T.b_bool (by decide +kernel) rfl) pa_nil)))) (pw_or1 (pt_val (pe_callB call_isi (by rfl) T.b_isinstance (by decide +kernel) (pa_cons (pv 1) (pa_cons (pe_bltn (v := .ty "bool") (by rfl) T.b_bool (by decide +kernel) rfl) pa_nil)))))))
    (pss_one (ps_ret (pe_and (pe_callB call_isi (by rfl) T.b_isinstance (by decide +kernel) (pa_cons (pv 0) (pa_cons (pe_bltn (v := .ty "bool") (by rfl) T.b_bool (by decide +kernel) rfl) pa_nil))) (pe_and (pe_callB call_isi (by rfl) T.b_isinstance (by decide +kernel) (pa_cons (pv 1) (pa_cons (pe_bltn (v := .ty "bool") (by rfl) T.b_bool (by decide +kernel) rfl) pa_nil))) (pe_one (pe_cmpR op_eq (pv 0) (pv 1) (nomark _)))))))
    pss_nil)
  (pss_cons (ps_if (pt_val (pe_callB call_isi (by rfl) T.b_isinstance (by decide +kernel) (pa_cons (pv 0) (pa_cons (pe_bltn (v := .ty "int") (by rfl) T.b_int (by decide +kernel) rfl) pa_nil))))
    (pss_one (ps_ret (pe_and (pe_callB call_isi (by rfl) T.b_isinstance (by decide +kernel) (pa_cons (pv 1) (pa_cons (pe_bltn (v := .ty "int") (by rfl) T.b_int (by decide +kernel) rfl) pa_nil))) (pe_one (pe_cmpR op_eq (pv 0) (pv 1) (nomark _))))))
    pss_nil)
  (pss_cons (ps_if (pt_val (pe_callB call_isi (by rfl) T.b_isinstance (by decide +kernel) (pa_cons (pv 0) (pa_cons (pe_bltn (v := .ty "str") (by rfl) T.b_str (by decide +kernel) rfl) pa_nil))))
    (pss_one (ps_ret (pe_and (pe_callB call_isi (by rfl) T.b_isinstance (by decide +kernel) (pa_cons (pv 1) (pa_cons (pe_bltn (v := .ty "str") (by rfl) T.b_str (by decide +kernel) rfl) pa_nil))) (pe_one (pe_cmpR op_eq (pv 0) (pv 1) (nomark _))))))
    pss_nil)
  (pss_cons (ps_if (pt_val (pe_callB call_isi (by rfl) T.b_isinstance (by decide +kernel) (pa_cons (pv 0) (pa_cons (pe_bltn (v := .ty "list") (by rfl) T.b_list (by decide +kernel) rfl) pa_nil))))
    (pss_one (ps_if (pt_not (pt_val (pe_callB call_isi (by rfl) T.b_isinstance (by decide +kernel) (pa_cons (pv 1) (pa_cons (pe_bltn (v := .ty "list") (by rfl) T.b_list (by decide +kernel) rfl) pa_nil)))))
        (pss_one (ps_ret pe_bl))
        pss_nil))
    (pss_one (ps_if (PW.pt (pw_or (pt_not (pt_val (pe_callB call_isi (by rfl) T.b_isinstance (by decide +kernel) (pa_cons (pv 0) (pa_cons (pe_bltn (v := .ty "tuple") (by rfl) T.b_tuple (by decide +kernel) rfl) pa_nil))))) (pw_or1 (pt_not (pt_val (pe_callB call_isi (by rfl) T.b_isinstance (by decide +kernel) (pa_cons (pv 1) (pa_cons (pe_bltn (v := .ty "tuple") (by rfl) T.b_tuple (by decide +kernel) rfl) pa_nil))))))))
        (pss_one (ps_ret pe_bl))
        pss_nil)))
  (pss_cons (ps_if (pt_cmpR op_ne (pe_callB Wk.b_len (by rfl) T.b_len (by decide +kernel) (pa_cons (pv 0) pa_nil)) (pe_callB Wk.b_len (by rfl) T.b_len (by decide +kernel) (pa_cons (pv 1) pa_nil)) (nomark _))
    (pss_one (ps_ret pe_bl))
    pss_nil)
  (pss_cons (ps_for PassesOwn.never rfl (pi_range1 rfl T.b_range (pa_cons (pe_callB Wk.b_len (by rfl) T.b_len (by decide +kernel) (pa_cons (pv 0) pa_nil)) pa_nil)) (pg_name (i := 2) sc__law_alike.nd rfl (Or.inl rfl))
    (pss_one (ps_if (pt_not (pt_val (C8.pe_c c__law_alike hr (by first | decide | omega) rfl (pa_cons (pe_ix ix_seq (pv 0) (pv 2) (fun _ _ => rfl)) (pa_cons (pe_ix ix_seq (pv 1) (pv 2) (fun _ _ => rfl)) pa_nil)))))
        (pss_one (ps_ret pe_bl))
        pss_nil)))
  (pss_one (ps_ret pe_bl))))))))), ?_⟩
    have scal : ∀ {v1 v2 d}, Sc v1 d → Sc v2 d → v1 = v2 := fun h1 h2 => by cases h1 <;> cases h2 <;> rfl
    have hd' : Sc v1 d ∧ Sc v2 d ∨ ∃ m a1 a2 xs ys ds, n = m + 1 ∧ v1 = .ref a1 ∧ v2 = .ref a2 ∧ xs.length ≤ 100000 ∧ Paired (Dn K [] H m) xs ds ∧ Paired (Dn K [] H m) ys ds ∧ ((SqL K H a1 xs ∧ SqL K H a2 ys) ∨ (SqT K H a1 xs ∧ SqT K H a2 ys)) := by
      obtain ⟨h1, h2⟩ := hd
      cases n with
      | zero => exact .inl ⟨h1, h2⟩
      | succ m =>
        rcases h1 with h1 | ⟨a, xs, ds, e1, e2, _, hq, hl, p⟩ | ⟨a, xs, ds, e1, e2, _, hq, hl, p⟩
        · rcases h2 with h2 | ⟨a', xs', ds', e1', e2', _, hq', hl', p'⟩ | ⟨a', xs', ds', e1', e2', _, hq', hl', p'⟩
          · exact .inl ⟨h1, h2⟩
          · subst e2'; cases h1
          · subst e2'; cases h1
        · subst e2
          rcases h2 with h2 | ⟨a', xs', ds', e1', e2', _, hq', hl', p'⟩ | ⟨a', xs', ds', e1', e2', _, hq', hl', p'⟩
          · cases h2
          · cases e2'
            exact .inr ⟨m, a, a', xs, xs', ds, rfl, e1, e1', hl, p, p', .inl ⟨hq, hq'⟩⟩
          · cases e2'
        · subst e2
          rcases h2 with h2 | ⟨a', xs', ds', e1', e2', _, hq', hl', p'⟩ | ⟨a', xs', ds', e1', e2', _, hq', hl', p'⟩
          · cases h2
          · cases e2'
          · cases e2'
            exact .inr ⟨m, a, a', xs, xs', ds, rfl, e1, e1', hl, p, p', .inr ⟨hq, hq'⟩⟩
    clear hd
    rcases hd' with ⟨h1, h2⟩ | ⟨m, a1, a2, xs, ys, ds, rfl, rfl, rfl, hl, p1, p2, hq⟩
    · obtain rfl := scal h1 h2
      clear h2 scal
      cases h1 <;> walk_at "s" <;> first | exact k | (simp only [decide_true]; exact k)
    · have e1 := p1.length
      have el : ys.length = xs.length := by rw [p1.length, p2.length]
      have hx : SqL K H a1 xs ∨ SqT K H a1 xs := hq.elim (fun z => .inl z.1) fun z => .inr z.1
      have hy : SqL K H a2 ys ∨ SqT K H a2 ys := hq.elim (fun z => .inl z.2) fun z => .inr z.2
      have rest : ∀ (lp : TS) (D : Ends), True := fun _ _ => trivial
      rcases hq with ⟨q1, q2⟩ | ⟨q1, q2⟩
      all_goals
        walk_at "s"
        refine c_lenA hx ?_
        walk_at "s"
        refine c_lenA hy ?_
        rw [el]
        walk_at "s"
        refine c_lenA hx ?_
        walk_at "s"
        refine l_range rfl (by omega) (fun i σ H2 => H2 = H ∧ ∃ v, σ = [some (.ref a1), some (.ref a2), v]) ⟨rfl, none, rfl⟩ ?_ ?_
        · rintro i σ H2 hi ⟨rfl, v, rfl⟩
          obtain ⟨d0, hd0, z1⟩ := paired_at p1 (List.getElem?_eq_getElem hi)
          obtain ⟨d1, hd1, z2⟩ := paired_at p2 (List.getElem?_eq_getElem (by omega : i < ys.length))
          rw [hd0] at hd1
          cases hd1
          walk_at "s"
          refine w_ixAny hx (atI_nat (List.getElem?_eq_getElem hi)) ?_
          walk_at "s"
          refine w_ixAny hy (atI_nat (List.getElem?_eq_getElem (by omega : i < ys.length))) ?_
          walk_at "s"
          refine ⟨_, _, d0, rfl, ⟨z1, z2⟩, ?_⟩
          walk_at "s"
          exact ⟨rfl, _, rfl⟩
        · rintro σ H2 ⟨rfl, v, rfl⟩
          walk_at "s"
          exact k
theorem cal_false {x : Str} {st : Stmt} {k : Nat} {sp : Sp} {ps : List Str} (d : DefAt K mg x st)
    (hb : ∀ (kV doc pm : Value) (an : Option Addr) (cdv ct : Value) (us : List Value), us.length = ps.length → bindArgs (PySem.W.fnOf x x (defArgs st) (defBody st) (defScope st) .none kV doc pm an cdv ct) ⟨us, []⟩ = pure (ps.zip us))
    (h : ∀ vs H Q E, sp vs H Q E → False) : C8.Cal P w K mg base k x sp [] := by
  obtain ⟨f, fd, F, hm⟩ := d
  exact ⟨f, fd, ps, [], ⟨fun vs H Q E z => (h _ _ _ _ z).elim, fun A outer s H args us vs Q E _ _ _ _ z => (h _ _ _ _ z).elim⟩, hm, F.kp, F.bindsN hb, .nil⟩
theorem c_alike (T : Txt K mg aREG aOPS) (d : DefAt K mg "_law_alike" s__law_alike) : ∀ n : Nat, C8.Cal P w K mg base n "_law_alike" (sp_alike K n) []
  | 0 => cal_false (ps := ["one", "two"]) d (fun _ _ _ _ _ _ us hl => match us, hl with | [_, _], _ => rfl) fun vs H Q E ⟨_, _, _, _, z, _⟩ => z
  | n + 1 => alike_step n T d (c_alike T d n)
theorem u_alike {n : Nat} {v1 v2 : V} {d : PyData} {H : Hp} {Q : VK} {E : XK} (h1 : Dn K [] H n v1 d) (h2 : Dn K [] H n v2 d) (q : Q (.bl true) H) : sp_alike K (n + 1) [v1, v2] H Q E := ⟨v1, v2, d, rfl, ⟨h1, h2⟩, q⟩
end
end K46
set_option Elab.async false
set_option linter.all false
set_option maxRecDepth 100000
set_option maxHeartbeats 4000000
namespace K46
open PySem PySem.Spec PyProof.Rows L2 Wk
local macro_rules | `(tactic| walk_at "u1") => `(tactic| fail "no more")
local macro_rules | `(tactic| walk_at "pos") => `(tactic| first | assumption | omega | decide | (simp only [Int.ofNat_eq_natCast] at *; omega))
local macro_rules | `(tactic| walk_at "sz") => `(tactic| first
  | (simp only [List.length_cons, List.length_nil]; decide)
  | exact Evl.sz_of (by omega)
  | exact Evl.sz_lt (by omega)
  | exact Evl.sz_of (by simp only [List.length_map, List.length_append, List.length_cons, List.length_nil, List.length_replicate]; omega)
  | exact Evl.sz_lt (by simp only [List.length_map, List.length_append, List.length_cons, List.length_nil, List.length_replicate]; omega))
local macro_rules | `(tactic| walk_at "cond") => `(tactic| first
  | exact Or.inr ⟨by decide, by decide⟩
  | (show (0 : Int) < _; first | decide | assumption | omega)
  | exact Or.inl ⟨by omega, by omega⟩
  | exact Or.inr ⟨by omega, by omega⟩
  | exact ⟨by decide, by decide, by decide⟩
  | exact log2_lt (by omega) (by omega)
  | exact ⟨by omega, by omega⟩)
local macro_rules | `(tactic| walk_at "ty") => `(tactic| first
  | exact ty_int | exact ty_bl | exact ty_str | exact ty_non
  | exact ty_L (by assumption) | exact ty_T (by assumption)
  | exact ty_L (SqL.of (by assumption)) | exact ty_T (SqT.of (by assumption)))
local macro_rules | `(tactic| walk_at "kit") => `(tactic| first
  | exact k_ii | exact k_ib | exact k_is | exact k_il | exact k_it
  | exact k_bb | exact k_bi | exact k_bs | exact k_bl | exact k_bt
  | exact k_ss | exact k_sb | exact k_si | exact k_sl | exact k_st
  | exact k_ll | exact k_lb | exact k_li | exact k_ls | exact k_lt
  | exact k_tt | exact k_tb | exact k_ti | exact k_ts | exact k_tl
  | exact k_nn | exact k_ni | exact k_ns | exact k_nl | exact k_nt)
local macro_rules | `(tactic| walk_at "s1") => `(tactic| first
  | with_reducible refine w_seq ?_
  | with_reducible refine w_set ?_
  | with_reducible refine w_op ?_
  | ((with_reducible refine' w_var ?h1 ?_); (case h1 => rfl))
  | with_reducible refine w_c ?_
  | with_reducible refine w_cb ?_
  | with_reducible refine w_cons ?_
  | with_reducible refine w_nil ?_
  | with_reducible refine w_I0 ?_
  | ((with_reducible refine' w_I ?c1 ?_); case c1 => walk_at "cond")
  | with_reducible refine w_ret ?_
  | with_reducible refine w_next ?_
  | with_reducible refine w_ifS ?_
  | with_reducible refine w_test ?_
  | with_reducible refine w_tB ?_
  | with_reducible refine w_k ?_
  | with_reducible refine w_eqI ?_
  | with_reducible refine w_neI ?_
  | with_reducible refine w_eqS ?_
  | with_reducible refine w_neS ?_
  | with_reducible refine w_and ?_
  | with_reducible refine w_or ?_
  | with_reducible refine w_not ?_
  | with_reducible refine w_andV ?_
  | with_reducible refine w_orV ?_
  | with_reducible refine w_notV ?_
  | with_reducible refine w_ifE ?_
  | with_reducible refine w_true ?_
  | with_reducible refine w_false ?_
  | with_reducible refine w_ntrue ?_
  | with_reducible refine w_nfalse ?_
  | with_reducible refine w_call ?_
  | with_reducible refine c_int ?_
  | with_reducible refine c_abs ?_
  | with_reducible refine c_max ?_
  | with_reducible refine c_min ?_
  | with_reducible refine w_drop ?_
  | with_reducible refine w_sfld ?_
  | with_reducible refine w_meth ?_
  | with_reducible refine w_make ?_
  | with_reducible refine w_prop ?_
  | with_reducible refine w_callK ?_
  | with_reducible refine w_callN ?_
  | with_reducible refine w_star ?_
  | with_reducible refine w_gcons ?_
  | with_reducible refine w_gname ?_
  | with_reducible refine w_gnil ?_
  | with_reducible refine w_retN ?_
  | with_reducible refine w_tup ?_
  | with_reducible refine w_lst ?_
  | with_reducible refine w_fld ?_
  | with_reducible refine w_bm ?_
  | with_reducible refine w_bm0 ?_
  | with_reducible refine w_forL ?_
  | with_reducible refine w_forT ?_
  | with_reducible refine w_forS ?_
  | with_reducible refine w_forR ?_
  | with_reducible refine w_lcR ?_
  | with_reducible refine w_lcL ?_
  | with_reducible refine w_lcT ?_
  | with_reducible refine w_isN ?_
  | with_reducible refine w_notN ?_
  | with_reducible refine w_asg ?_
  | with_reducible refine w_gsub ?_
  | ((with_reducible refine' w_aug ?h1 ?_); (case h1 => rfl))
  | with_reducible refine w_augS ?_
  | with_reducible refine w_ipI ?_
  | with_reducible refine w_un ?_
  | with_reducible refine w_U ?_
  | ((with_reducible refine' w_iteF ?f1 ?_); case f1 => (first | (intro h; cases h; done) | decide))
  | ((with_reducible refine' w_iteT ?f1 ?_); case f1 => rfl)
  | ((with_reducible refine' w_iteNF ?f1 ?_); case f1 => rfl)
  | ((with_reducible refine' w_iteNT ?f1 ?_); case f1 => (first | (intro h; cases h; done) | decide))
  | ((with_reducible refine' c_isi ?t1 ?k1 ?_); (case t1 => walk_at "ty"); (case k1 => walk_at "kit"))
  | ((with_reducible refine' w_eq ?e1 ?_); case e1 => rfl)
  | ((with_reducible refine' w_ne ?e1 ?_); case e1 => rfl)
  | walk_at "u1")
local macro_rules | `(tactic| walk_at "s") => `(tactic| repeat walk_at "s1")
local macro_rules | `(tactic| walk_at "mem") => `(tactic| first | with_reducible exact List.mem_cons_self .. | ((with_reducible refine' List.mem_cons_of_mem _ ?q); (case q => walk_at "mem")) | assumption | ((with_reducible refine' List.mem_append_right _ ?q); (case q => walk_at "mem")) | (exact List.mem_append_left _ (by assumption)))
local macro_rules | `(tactic| walk_at "pk") => `(tactic| first | with_reducible exact Pk.here | ((with_reducible refine' Pk.there ?q); (case q => walk_at "pk")) | ((with_reducible refine' Pk.app ?q); (case q => walk_at "pk")))
local macro_rules | `(tactic| walk_at "pkb") => `(tactic| first | with_reducible exact PkB.here | ((with_reducible refine' PkB.there ?q); (case q => walk_at "pkb")) | ((with_reducible refine' PkB.app ?q); (case q => walk_at "pkb")))
local macro_rules | `(tactic| walk_at "spl") => `(tactic| first | with_reducible exact Spl.nil | ((with_reducible refine' Spl.cons ?h ?t); (case h => walk_at "pk"); (case t => walk_at "spl")) | ((with_reducible refine' Spl.blk ?h ?t); (case h => walk_at "pkb"); (case t => walk_at "spl")))
local macro_rules | `(tactic| walk_at "sbx") => `(tactic| first | with_reducible exact Sb.refl | with_reducible exact Sb.nil | with_reducible exact Sb.left | ((with_reducible refine' Sb.cons ?h ?t); (case h => walk_at "pk"); (case t => walk_at "sbx")) | ((with_reducible refine' Sb.blk ?h ?t); (case h => walk_at "pkb"); (case t => walk_at "sbx")) | ((with_reducible refine' Sb.drop ?q); (case q => walk_at "sbx")) | ((with_reducible refine' Sb.right ?q); (case q => walk_at "sbx")))
local macro_rules | `(tactic| walk_at "hd") => `(tactic| first | assumption | exact Hd.sb (by assumption) (by walk_at "sbx"))
local macro_rules | `(tactic| walk_at "sq") => `(tactic| first
  | assumption
  | exact Hd.sqL (by assumption) (by walk_at "mem")
  | exact Hd.sqT (by assumption) (by walk_at "mem")
  | exact Hd.sqF (by assumption) (by walk_at "mem")
  | (refine .inl ?_; walk_at "sq")
  | (refine .inr ?_; walk_at "sq"))
local macro_rules | `(tactic| walk_at "at") => `(tactic| first | rfl | assumption | exact atI_nat (by assumption))
local macro_rules | `(tactic| walk_at "dn1") => `(tactic| first
  | exact Dn.int | exact Dn.str | exact Dn.non | exact Dn.bl | assumption
  | ((refine' Dn.tp ?a1 ?m1 ?l1 ?p1); (case a1 => assumption); (case m1 => walk_at "mem"); (case l1 => (simp only [List.length_cons, List.length_nil]; omega)); (case p1 => walk_at "dns"))
  | ((refine' Dn.lt ?a1 ?m1 ?l1 ?p1); (case a1 => assumption); (case m1 => walk_at "mem"); (case l1 => (simp only [List.length_cons, List.length_nil]; omega)); (case p1 => walk_at "dns")))
local macro_rules | `(tactic| walk_at "dns") => `(tactic| first | exact Paired.nil | exact Dn.ints | ((refine' Paired.cons ?a1 ?b1); (case a1 => walk_at "dn1"); (case b1 => walk_at "dns")))
local macro_rules | `(tactic| walk_at "g1") => `(tactic| first
  | ((with_reducible refine' g_ixI ?h1 ?h2 ?h3 ?_); (case h1 => assumption); (case h2 => walk_at "mem"); (case h3 => omega); intro z hz)
  | ((with_reducible refine' g_ixIT ?h1 ?h2 ?h3 ?_); (case h1 => assumption); (case h2 => walk_at "mem"); (case h3 => omega); intro z hz)
  | ((with_reducible refine' g_setI ?h1 ?h2 ?h3 ?_); (case h1 => assumption); (case h2 => walk_at "pk"); (case h3 => omega); intro H2 hh2)
  | ((with_reducible refine' w_ixL ?h1 ?h2 ?_); (case h1 => walk_at "sq"); (case h2 => walk_at "at"))
  | ((with_reducible refine' w_ixT ?h1 ?h2 ?_); (case h1 => walk_at "sq"); (case h2 => walk_at "at"))
  | ((with_reducible refine' w_ixAny ?h1 ?h2 ?_); (case h1 => walk_at "sq"); (case h2 => walk_at "at"))
  | ((with_reducible refine' c_lenA ?h1 ?_); (case h1 => walk_at "sq"))
  | ((with_reducible refine' c_isi ?t1 ?k1 ?_); (case t1 => first | exact ty_T (by walk_at "sq") | exact ty_L (by walk_at "sq")); (case k1 => walk_at "kit"))
  | ((with_reducible refine' g_lst ?h1 ?h2 ?_); (case h1 => assumption); (case h2 => walk_at "sz"); intro p H2 hh2)
  | ((with_reducible refine' g_tup ?h1 ?h2 ?_); (case h1 => assumption); (case h2 => walk_at "sz"); intro p H2 hh2)
  | ((with_reducible refine' g_dict ?h1 ?_); (case h1 => assumption); intro p H2 hh2)
  | ((with_reducible refine' g_listL ?h1 ?h2 ?_); (case h1 => assumption); (case h2 => walk_at "sq"); intro p H2 hh2)
  | ((with_reducible refine' g_listT ?h1 ?h2 ?_); (case h1 => assumption); (case h2 => walk_at "sq"); intro p H2 hh2)
  | ((with_reducible refine' g_tupL ?h1 ?h2 ?_); (case h1 => assumption); (case h2 => walk_at "sq"); intro p H2 hh2)
  | ((with_reducible refine' g_set ?h1 ?h2 ?h3 ?_); (case h1 => assumption); (case h2 => walk_at "pk"); (case h3 => first | rfl | assumption | exact Evl.ixN_nat (by first | omega | (simp only [List.length_cons, List.length_nil]; omega))); intro H2 hh2)
  | ((with_reducible refine' g_kbm ?h1 ?h2 ?_); (case h1 => assumption); (case h2 => walk_at "mem"))
  | ((with_reducible refine' g_kbm0 ?h1 ?h2 ?_); (case h1 => assumption); (case h2 => walk_at "mem"))
  | ((with_reducible refine' g_app ?h1 ?h2 ?h3 ?_); (case h1 => assumption); (case h2 => walk_at "pk"); (case h3 => walk_at "sz"); intro H2 hh2)
  | ((with_reducible refine' g_kapp ?h1 ?h2 ?h3 ?_); (case h1 => assumption); (case h2 => walk_at "pk"); (case h3 => walk_at "sz"); intro H2 hh2)
  | ((with_reducible refine' g_fld ?h1 ?h2 ?h3 ?h4 ?h5 ?_); (case h1 => assumption); (case h2 => walk_at "mem"); (case h3 => assumption); (case h4 => assumption); (case h5 => rfl))
  | ((with_reducible refine' g_sfld ?h1 ?h2 ?h3 ?h4 ?h5 ?_); (case h1 => assumption); (case h2 => walk_at "pk"); (case h3 => assumption); (case h4 => assumption); (case h5 => decide); intro H2 hh2)
  | ((with_reducible refine' g_meth ?h1 ?h2 ?h3 ?_); (case h1 => assumption); (case h2 => walk_at "mem"); (case h3 => rfl))
  | ((with_reducible refine' g_prop ?h1 ?h2 ?_); (case h1 => assumption); (case h2 => walk_at "mem"))
  | ((with_reducible refine' g_make ?h1 ?_); (case h1 => assumption); intro x H2 hh2)
  | ((with_reducible refine' g_cat ?h1 ?h2 ?h3 ?h4 ?_); (case h1 => assumption); (case h2 => walk_at "mem"); (case h3 => walk_at "mem"); (case h4 => walk_at "sz"); intro p H2 hh2)
  | ((with_reducible refine' g_inT ?h1 ?h2 ?h3 ?h4 ?h5 ?_); (case h1 => assumption); (case h2 => walk_at "mem"); (case h3 => rfl); (case h4 => rfl); (case h5 => rfl)))
local macro_rules | `(tactic| walk_at "gs") => `(tactic| repeat first | walk_at "s1" | walk_at "g1")
local macro_rules | `(tactic| walk_at "ite") => `(tactic| first
  | ((with_reducible refine' w_iteT ?h1 ?_); (case h1 => omega))
  | ((with_reducible refine' w_iteF ?h1 ?_); (case h1 => omega))
  | (with_reducible refine w_ite ?_ ?_ <;> intro hq)
  | ((with_reducible refine' w_iteNT ?h1 ?_); (case h1 => omega))
  | ((with_reducible refine' w_iteNF ?h1 ?_); (case h1 => omega))
  | (with_reducible refine w_iteN ?_ ?_ <;> intro hq))
local macro_rules | `(tactic| walk_at "go") => `(tactic| repeat' first | walk_at "s1" | walk_at "g1" | walk_at "ite")
section
variable {P : Program} {w : World} {K : PySem.W.Frag} {mg : Str → Option Value} {base : Heap} {aREG aOPS : Addr}
/-! ### copies -/
def Trk (S : List Addr) (H : Hp) : Prop := ∀ a ∈ S, ∃ o, H a = some o
theorem Trk.upt {S : List Addr} {H H' : Hp} (t : Trk S H) (u : Upt [] H H') : Trk S H' := fun a h => by
  obtain ⟨o, e⟩ := t a h
  exact ⟨o, u.at0 e⟩
/-- a datum nested less than n deep is copied: the copy's lists and tuples are new -/
def sp_copy (K : PySem.W.Frag) (n : Nat) : Sp := fun vs H Q _ => ∃ (v : V) (d : PyData), vs = [v] ∧ (match n with
  | 0 => False
  | n + 1 => Dn K [] H n v d ∧ ∀ v' H', Upt [] H H' → (∀ S, Trk S H → Dn K S H' n v' d) → Q v' H')
theorem take_succ' {α : Type} {xs : List α} {i : Nat} {x : α} (h : xs[i]? = some x) : xs.take (i + 1) = xs.take i ++ [x] := by
  rw [List.take_succ, h]; rfl
theorem Paired.snoc {α β : Type} {F : α → β → Prop} : ∀ {xs : List α} {ys : List β} {x : α} {y : β}, Paired F xs ys → F x y → Paired F (xs ++ [x]) (ys ++ [y])
  | _, _, _, _, .nil, h => .cons h .nil
  | _, _, _, _, .cons r t, h => .cons r (Paired.snoc t h)
theorem copy_step (n : Nat) (T : Txt K mg aREG aOPS) (d : DefAt K mg "_law_copy" s__law_copy) (c__law_copy : C8.Cal P w K mg base n "_law_copy" (sp_copy K n) []) : C8.Cal P w K mg base (n + 1) "_law_copy" (sp_copy K (n + 1)) [] := by
  refine mk d sc__law_copy (fun _ _ _ _ _ _ us hl => match us, hl with | [_], _ => rfl) (fun vs H Q E h => ?_) (fun f cdv A outer s H vs Q E hr h => ?_)
  · obtain ⟨v1, d, rfl, _⟩ := h
    rfl
  · obtain ⟨v, d, rfl, hd, k⟩ := h
    refine ⟨_, (pss_cons (ps_if (pt_val (pe_callB call_isi (by rfl) T.b_isinstance (by decide +kernel) (pa_cons (pv 0) (pa_cons (pe_bltn (v := .ty "list") (by rfl) T.b_list (by decide +kernel) rfl) pa_nil))))
    (pss_one (ps_ret (pe_lc (own := [("x", 1)]) rfl sc__law_copy.nd (pi_list (pv 0)) (blkOk_by (own := [("x", 1)]) (N := nm__law_copy) (sc := defScope s__law_copy) (by decide +kernel)) (fun _ _ _ _ _ => (pg_name (i := 1) sc__law_copy.nd rfl (Or.inl rfl))) (fun _ _ _ _ _ => pts_nil) (fun _ _ _ _ _ => (C8.pe_c c__law_copy hr (by first | decide | omega) rfl (pa_cons (pv 1) pa_nil))))))
    pss_nil)
  (pss_cons (ps_if (pt_val (pe_callB call_isi (by rfl) T.b_isinstance (by decide +kernel) (pa_cons (pv 0) (pa_cons (pe_bltn (v := .ty "tuple") (by rfl) T.b_tuple (by decide +kernel) rfl) pa_nil))))
    (pss_one (ps_ret (pe_callTy Wk.b_tuple (by rfl) T.b_tuple (by decide +kernel) (pa_cons (pe_lc (own := [("x", 1)]) rfl sc__law_copy.nd (pi_tup (pv 0)) (blkOk_by (own := [("x", 1)]) (N := nm__law_copy) (sc := defScope s__law_copy) (by decide +kernel)) (fun _ _ _ _ _ => (pg_name (i := 1) sc__law_copy.nd rfl (Or.inl rfl))) (fun _ _ _ _ _ => pts_nil) (fun _ _ _ _ _ => (C8.pe_c c__law_copy hr (by first | decide | omega) rfl (pa_cons (pv 1) pa_nil)))) pa_nil))))
    pss_nil)
  (pss_one (ps_ret (pv 0))))), ?_⟩
    have hd' : Sc v d ∨ ∃ m a xs ds, n = m + 1 ∧ v = .ref a ∧ xs.length ≤ 100000 ∧ Paired (Dn K [] H m) xs ds ∧ ((SqL K H a xs ∧ d = .list ds) ∨ (SqT K H a xs ∧ d = .tuple ds)) := by
      cases n with
      | zero => exact .inl hd
      | succ m =>
        rcases hd with h1 | ⟨a, xs, ds, e1, e2, _, hq, hl, p⟩ | ⟨a, xs, ds, e1, e2, _, hq, hl, p⟩
        · exact .inl h1
        · exact .inr ⟨m, a, xs, ds, rfl, e1, hl, p, .inl ⟨hq, e2⟩⟩
        · exact .inr ⟨m, a, xs, ds, rfl, e1, hl, p, .inr ⟨hq, e2⟩⟩
    clear hd
    rcases hd' with h1 | ⟨m, a, xs, ds, rfl, rfl, hl, p, hq⟩
    · have k' := k v H (Upt.refl H) fun S _ => Dn.sc h1
      cases h1 <;> walk_at "s" <;> exact k'
    · -- what holds behind i items
      have el := p.length
      have turn : ∀ (i : Nat) (x : V) (D : Addr) (H2 : Hp), xs[i]? = some x → (H D = none ∧ Upt [] H H2 ∧ ∃ acc, H2 D = some (.lst acc) ∧ acc.length = i ∧ ∀ S, Trk S H → Paired (Dn K (D :: S) H2 m) acc (ds.take i)) →
          ∃ d0, ds[i]? = some d0 ∧ Dn K [] H2 m x d0 ∧ ∀ v' H4, Upt [] H2 H4 → (∀ S, Trk S H2 → Dn K S H4 m v' d0) → KApp D (fun H2 => H D = none ∧ Upt [] H H2 ∧ ∃ acc, H2 D = some (.lst acc) ∧ acc.length = i + 1 ∧ ∀ S, Trk S H → Paired (Dn K (D :: S) H2 m) acc (ds.take (i + 1))) v' H4 := by
        rintro i x D H2 hi ⟨hD, u, acc, hacc, hn, hp⟩
        obtain ⟨d0, hd0, z⟩ := paired_at p hi
        have hil := (List.getElem?_eq_some_iff.mp hi).1
        refine ⟨d0, hd0, Dn.upt u (by simp) z, fun v' H4 u4 h4 => ?_⟩
        refine w_kapp (u4.at0 hacc) (Evl.sz_lt (by omega)) fun H5 g5 => ⟨hD, fun b o _ ho => ?_, acc ++ [v'], g5.at_, by simp [hn], fun S hS => ?_⟩
        · exact g5.keep.at1 (fun z => by subst z; rw [hD] at ho; cases ho) (u4.at0 (u.at0 ho))
        · rw [take_succ' hd0]
          have u5 : Upt [D] H4 H5 := g5.keep
          refine Paired.snoc (Paired.mapP (hp S hS) fun x y q => Dn.upt u5 (by simp) (Dn.upt u4 (by simp) q)) ?_
          refine Dn.upt u5 (by simp) (h4 (D :: S) fun b hb => ?_)
          rcases List.mem_cons.mp hb with z | z
          · subst z; exact ⟨_, hacc⟩
          · exact hS.upt u b z
      rcases hq with ⟨hx, rfl⟩ | ⟨hx, rfl⟩
      · walk_at "s"
        refine lc_L hx (fun i D H2 => H D = none ∧ Upt [] H H2 ∧ ∃ acc, H2 D = some (.lst acc) ∧ acc.length = i ∧ ∀ S, Trk S H → Paired (Dn K (D :: S) H2 m) acc (ds.take i)) (fun D H1 n1 => ⟨n1.no, n1.keep, [], n1.at_, rfl, fun _ _ => .nil⟩) (fun i D H2 _ ⟨_, u, _⟩ => hx.upt u) (fun i x D H2 hi hp => ?_) (fun D H2 hp => ?_)
        · obtain ⟨d0, hd0, z, kk⟩ := turn i x D H2 hi hp
          walk_at "s"
          exact ⟨x, d0, rfl, z, kk⟩
        · obtain ⟨hD, u, acc, hacc, hn, hpp⟩ := hp
          refine k (.ref D) H2 u fun S hS => ?_
          have q := hpp S hS
          rw [el, List.take_length] at q
          exact Dn.lst (SqL.of hacc) (fun z => by obtain ⟨o, e⟩ := hS D z; rw [hD] at e; cases e) (by omega) (Paired.mapP q fun x y q => Dn.weak (fun b hb => List.mem_cons_of_mem _ hb) q)
      · walk_at "s"
        refine lc_T hx (fun i D H2 => H D = none ∧ Upt [] H H2 ∧ ∃ acc, H2 D = some (.lst acc) ∧ acc.length = i ∧ ∀ S, Trk S H → Paired (Dn K (D :: S) H2 m) acc (ds.take i)) (fun D H1 n1 => ⟨n1.no, n1.keep, [], n1.at_, rfl, fun _ _ => .nil⟩) (fun i D H2 _ ⟨_, u, _⟩ => hx.upt u) (fun i x D H2 hi hp => ?_) (fun D H2 hp => ?_)
        · obtain ⟨d0, hd0, z, kk⟩ := turn i x D H2 hi hp
          walk_at "s"
          exact ⟨x, d0, rfl, z, kk⟩
        · obtain ⟨hD, u, acc, hacc, hn, hpp⟩ := hp
          walk_at "s"
          refine c_tupL (SqL.of hacc) fun t H3 n3 => ?_
          refine k (.ref t) H3 (u.trans n3.keep) fun S hS => ?_
          have q := hpp S hS
          rw [el, List.take_length] at q
          exact Dn.tup (SqT.of n3.at_) (fun z => by obtain ⟨o, e⟩ := hS.upt u t z; rw [n3.no] at e; cases e) (by omega) (Paired.mapP q fun x y q => Dn.upt n3.keep (by simp) (Dn.weak (fun b hb => List.mem_cons_of_mem _ hb) q))
theorem c_copy (T : Txt K mg aREG aOPS) (d : DefAt K mg "_law_copy" s__law_copy) : ∀ n : Nat, C8.Cal P w K mg base n "_law_copy" (sp_copy K n) []
  | 0 => cal_false (ps := ["value"]) d (fun _ _ _ _ _ _ us hl => match us, hl with | [_], _ => rfl) fun vs H Q E ⟨_, _, _, z⟩ => z
  | n + 1 => copy_step n T d (c_copy T d n)
theorem u_copy {n : Nat} {v : V} {d : PyData} {H : Hp} {Q : VK} {E : XK} (h1 : Dn K [] H n v d) (q : ∀ v' H', Upt [] H H' → (∀ S, Trk S H → Dn K S H' n v' d) → Q v' H') : sp_copy K (n + 1) [v] H Q E := ⟨v, d, rfl, h1, q⟩
end
end K46
set_option Elab.async false
set_option linter.all false
set_option maxRecDepth 100000
set_option maxHeartbeats 4000000
namespace K46
open PySem PySem.Spec PyProof.Rows L2 Wk
local macro_rules | `(tactic| walk_at "u1") => `(tactic| fail "no more")
local macro_rules | `(tactic| walk_at "pos") => `(tactic| first | assumption | omega | decide | (simp only [Int.ofNat_eq_natCast] at *; omega))
local macro_rules | `(tactic| walk_at "sz") => `(tactic| first
  | (simp only [List.length_cons, List.length_nil]; decide)
  | exact Evl.sz_of (by omega)
  | exact Evl.sz_lt (by omega)
  | exact Evl.sz_of (by simp only [List.length_map, List.length_append, List.length_cons, List.length_nil, List.length_replicate]; omega)
  | exact Evl.sz_lt (by simp only [List.length_map, List.length_append, List.length_cons, List.length_nil, List.length_replicate]; omega))
local macro_rules | `(tactic| walk_at "cond") => `(tactic| first
  | exact Or.inr ⟨by decide, by decide⟩
  | (show (0 : Int) < _; first | decide | assumption | omega)
  | exact Or.inl ⟨by omega, by omega⟩
  | exact Or.inr ⟨by omega, by omega⟩
  | exact ⟨by decide, by decide, by decide⟩
  | exact log2_lt (by omega) (by omega)
  | exact ⟨by omega, by omega⟩)
local macro_rules | `(tactic| walk_at "ty") => `(tactic| first
  | exact ty_int | exact ty_bl | exact ty_str | exact ty_non
  | exact ty_L (by assumption) | exact ty_T (by assumption)
  | exact ty_L (SqL.of (by assumption)) | exact ty_T (SqT.of (by assumption)))
local macro_rules | `(tactic| walk_at "kit") => `(tactic| first
  | exact k_ii | exact k_ib | exact k_is | exact k_il | exact k_it
  | exact k_bb | exact k_bi | exact k_bs | exact k_bl | exact k_bt
  | exact k_ss | exact k_sb | exact k_si | exact k_sl | exact k_st
  | exact k_ll | exact k_lb | exact k_li | exact k_ls | exact k_lt
  | exact k_tt | exact k_tb | exact k_ti | exact k_ts | exact k_tl
  | exact k_nn | exact k_ni | exact k_ns | exact k_nl | exact k_nt)
local macro_rules | `(tactic| walk_at "s1") => `(tactic| first
  | with_reducible refine w_seq ?_
  | with_reducible refine w_set ?_
  | with_reducible refine w_op ?_
  | ((with_reducible refine' w_var ?h1 ?_); (case h1 => rfl))
  | with_reducible refine w_c ?_
  | with_reducible refine w_cb ?_
  | with_reducible refine w_cons ?_
  | with_reducible refine w_nil ?_
  | with_reducible refine w_I0 ?_
  | ((with_reducible refine' w_I ?c1 ?_); case c1 => walk_at "cond")
  | with_reducible refine w_ret ?_
  | with_reducible refine w_next ?_
  | with_reducible refine w_ifS ?_
  | with_reducible refine w_test ?_
  | with_reducible refine w_tB ?_
  | with_reducible refine w_k ?_
  | with_reducible refine w_eqI ?_
  | with_reducible refine w_neI ?_
  | with_reducible refine w_eqS ?_
  | with_reducible refine w_neS ?_
  | with_reducible refine w_and ?_
  | with_reducible refine w_or ?_
  | with_reducible refine w_not ?_
  | with_reducible refine w_andV ?_
  | with_reducible refine w_orV ?_
  | with_reducible refine w_notV ?_
  | with_reducible refine w_ifE ?_
  | with_reducible refine w_true ?_
  | with_reducible refine w_false ?_
  | with_reducible refine w_ntrue ?_
  | with_reducible refine w_nfalse ?_
  | with_reducible refine w_call ?_
  | with_reducible refine c_int ?_
  | with_reducible refine c_abs ?_
  | with_reducible refine c_max ?_
  | with_reducible refine c_min ?_
  | with_reducible refine w_drop ?_
  | with_reducible refine w_sfld ?_
  | with_reducible refine w_meth ?_
  | with_reducible refine w_make ?_
  | with_reducible refine w_prop ?_
  | with_reducible refine w_callK ?_
  | with_reducible refine w_callN ?_
  | with_reducible refine w_star ?_
  | with_reducible refine w_gcons ?_
  | with_reducible refine w_gname ?_
  | with_reducible refine w_gnil ?_
  | with_reducible refine w_retN ?_
  | with_reducible refine w_tup ?_
  | with_reducible refine w_lst ?_
  | with_reducible refine w_fld ?_
  | with_reducible refine w_bm ?_
  | with_reducible refine w_bm0 ?_
  | with_reducible refine w_forL ?_
  | with_reducible refine w_forT ?_
  | with_reducible refine w_forS ?_
  | with_reducible refine w_forR ?_
  | with_reducible refine w_lcR ?_
  | with_reducible refine w_lcL ?_
  | with_reducible refine w_lcT ?_
  | with_reducible refine w_isN ?_
  | with_reducible refine w_notN ?_
  | with_reducible refine w_asg ?_
  | with_reducible refine w_gsub ?_
  | ((with_reducible refine' w_aug ?h1 ?_); (case h1 => rfl))
  | with_reducible refine w_augS ?_
  | with_reducible refine w_ipI ?_
  | with_reducible refine w_un ?_
  | with_reducible refine w_U ?_
  | ((with_reducible refine' w_iteF ?f1 ?_); case f1 => (first | (intro h; cases h; done) | decide))
  | ((with_reducible refine' w_iteT ?f1 ?_); case f1 => rfl)
  | ((with_reducible refine' w_iteNF ?f1 ?_); case f1 => rfl)
  | ((with_reducible refine' w_iteNT ?f1 ?_); case f1 => (first | (intro h; cases h; done) | decide))
  | ((with_reducible refine' c_isi ?t1 ?k1 ?_); (case t1 => walk_at "ty"); (case k1 => walk_at "kit"))
  | ((with_reducible refine' w_eq ?e1 ?_); case e1 => rfl)
  | ((with_reducible refine' w_ne ?e1 ?_); case e1 => rfl)
  | walk_at "u1")
local macro_rules | `(tactic| walk_at "s") => `(tactic| repeat walk_at "s1")
local macro_rules | `(tactic| walk_at "mem") => `(tactic| first | with_reducible exact List.mem_cons_self .. | ((with_reducible refine' List.mem_cons_of_mem _ ?q); (case q => walk_at "mem")) | assumption | ((with_reducible refine' List.mem_append_right _ ?q); (case q => walk_at "mem")) | (exact List.mem_append_left _ (by assumption)))
local macro_rules | `(tactic| walk_at "pk") => `(tactic| first | with_reducible exact Pk.here | ((with_reducible refine' Pk.there ?q); (case q => walk_at "pk")) | ((with_reducible refine' Pk.app ?q); (case q => walk_at "pk")))
local macro_rules | `(tactic| walk_at "pkb") => `(tactic| first | with_reducible exact PkB.here | ((with_reducible refine' PkB.there ?q); (case q => walk_at "pkb")) | ((with_reducible refine' PkB.app ?q); (case q => walk_at "pkb")))
local macro_rules | `(tactic| walk_at "spl") => `(tactic| first | with_reducible exact Spl.nil | ((with_reducible refine' Spl.cons ?h ?t); (case h => walk_at "pk"); (case t => walk_at "spl")) | ((with_reducible refine' Spl.blk ?h ?t); (case h => walk_at "pkb"); (case t => walk_at "spl")))
local macro_rules | `(tactic| walk_at "sbx") => `(tactic| first | with_reducible exact Sb.refl | with_reducible exact Sb.nil | with_reducible exact Sb.left | ((with_reducible refine' Sb.cons ?h ?t); (case h => walk_at "pk"); (case t => walk_at "sbx")) | ((with_reducible refine' Sb.blk ?h ?t); (case h => walk_at "pkb"); (case t => walk_at "sbx")) | ((with_reducible refine' Sb.drop ?q); (case q => walk_at "sbx")) | ((with_reducible refine' Sb.right ?q); (case q => walk_at "sbx")))
local macro_rules | `(tactic| walk_at "hd") => `(tactic| first | assumption | exact Hd.sb (by assumption) (by walk_at "sbx"))
local macro_rules | `(tactic| walk_at "sq") => `(tactic| first
  | assumption
  | exact Hd.sqL (by assumption) (by walk_at "mem")
  | exact Hd.sqT (by assumption) (by walk_at "mem")
  | exact Hd.sqF (by assumption) (by walk_at "mem")
  | (refine .inl ?_; walk_at "sq")
  | (refine .inr ?_; walk_at "sq"))
local macro_rules | `(tactic| walk_at "at") => `(tactic| first | rfl | assumption | exact atI_nat (by assumption))
local macro_rules | `(tactic| walk_at "dn1") => `(tactic| first
  | exact Dn.int | exact Dn.str | exact Dn.non | exact Dn.bl | assumption
  | ((refine' Dn.tp ?a1 ?m1 ?l1 ?p1); (case a1 => assumption); (case m1 => walk_at "mem"); (case l1 => (simp only [List.length_cons, List.length_nil]; omega)); (case p1 => walk_at "dns"))
  | ((refine' Dn.lt ?a1 ?m1 ?l1 ?p1); (case a1 => assumption); (case m1 => walk_at "mem"); (case l1 => (simp only [List.length_cons, List.length_nil]; omega)); (case p1 => walk_at "dns")))
local macro_rules | `(tactic| walk_at "dns") => `(tactic| first | exact Paired.nil | exact Dn.ints | ((refine' Paired.cons ?a1 ?b1); (case a1 => walk_at "dn1"); (case b1 => walk_at "dns")))
local macro_rules | `(tactic| walk_at "g1") => `(tactic| first
  | ((with_reducible refine' g_ixI ?h1 ?h2 ?h3 ?_); (case h1 => assumption); (case h2 => walk_at "mem"); (case h3 => omega); intro z hz)
  | ((with_reducible refine' g_ixIT ?h1 ?h2 ?h3 ?_); (case h1 => assumption); (case h2 => walk_at "mem"); (case h3 => omega); intro z hz)
  | ((with_reducible refine' g_setI ?h1 ?h2 ?h3 ?_); (case h1 => assumption); (case h2 => walk_at "pk"); (case h3 => omega); intro H2 hh2)
  | ((with_reducible refine' w_ixL ?h1 ?h2 ?_); (case h1 => walk_at "sq"); (case h2 => walk_at "at"))
  | ((with_reducible refine' w_ixT ?h1 ?h2 ?_); (case h1 => walk_at "sq"); (case h2 => walk_at "at"))
  | ((with_reducible refine' w_ixAny ?h1 ?h2 ?_); (case h1 => walk_at "sq"); (case h2 => walk_at "at"))
  | ((with_reducible refine' c_lenA ?h1 ?_); (case h1 => walk_at "sq"))
  | ((with_reducible refine' c_isi ?t1 ?k1 ?_); (case t1 => first | exact ty_T (by walk_at "sq") | exact ty_L (by walk_at "sq")); (case k1 => walk_at "kit"))
  | ((with_reducible refine' g_lst ?h1 ?h2 ?_); (case h1 => assumption); (case h2 => walk_at "sz"); intro p H2 hh2)
  | ((with_reducible refine' g_tup ?h1 ?h2 ?_); (case h1 => assumption); (case h2 => walk_at "sz"); intro p H2 hh2)
  | ((with_reducible refine' g_dict ?h1 ?_); (case h1 => assumption); intro p H2 hh2)
  | ((with_reducible refine' g_listL ?h1 ?h2 ?_); (case h1 => assumption); (case h2 => walk_at "sq"); intro p H2 hh2)
  | ((with_reducible refine' g_listT ?h1 ?h2 ?_); (case h1 => assumption); (case h2 => walk_at "sq"); intro p H2 hh2)
  | ((with_reducible refine' g_tupL ?h1 ?h2 ?_); (case h1 => assumption); (case h2 => walk_at "sq"); intro p H2 hh2)
  | ((with_reducible refine' g_set ?h1 ?h2 ?h3 ?_); (case h1 => assumption); (case h2 => walk_at "pk"); (case h3 => first | rfl | assumption | exact Evl.ixN_nat (by first | omega | (simp only [List.length_cons, List.length_nil]; omega))); intro H2 hh2)
  | ((with_reducible refine' g_kbm ?h1 ?h2 ?_); (case h1 => assumption); (case h2 => walk_at "mem"))
  | ((with_reducible refine' g_kbm0 ?h1 ?h2 ?_); (case h1 => assumption); (case h2 => walk_at "mem"))
  | ((with_reducible refine' g_app ?h1 ?h2 ?h3 ?_); (case h1 => assumption); (case h2 => walk_at "pk"); (case h3 => walk_at "sz"); intro H2 hh2)
  | ((with_reducible refine' g_kapp ?h1 ?h2 ?h3 ?_); (case h1 => assumption); (case h2 => walk_at "pk"); (case h3 => walk_at "sz"); intro H2 hh2)
  | ((with_reducible refine' g_fld ?h1 ?h2 ?h3 ?h4 ?h5 ?_); (case h1 => assumption); (case h2 => walk_at "mem"); (case h3 => assumption); (case h4 => assumption); (case h5 => rfl))
  | ((with_reducible refine' g_sfld ?h1 ?h2 ?h3 ?h4 ?h5 ?_); (case h1 => assumption); (case h2 => walk_at "pk"); (case h3 => assumption); (case h4 => assumption); (case h5 => decide); intro H2 hh2)
  | ((with_reducible refine' g_meth ?h1 ?h2 ?h3 ?_); (case h1 => assumption); (case h2 => walk_at "mem"); (case h3 => rfl))
  | ((with_reducible refine' g_prop ?h1 ?h2 ?_); (case h1 => assumption); (case h2 => walk_at "mem"))
  | ((with_reducible refine' g_make ?h1 ?_); (case h1 => assumption); intro x H2 hh2)
  | ((with_reducible refine' g_cat ?h1 ?h2 ?h3 ?h4 ?_); (case h1 => assumption); (case h2 => walk_at "mem"); (case h3 => walk_at "mem"); (case h4 => walk_at "sz"); intro p H2 hh2)
  | ((with_reducible refine' g_inT ?h1 ?h2 ?h3 ?h4 ?h5 ?_); (case h1 => assumption); (case h2 => walk_at "mem"); (case h3 => rfl); (case h4 => rfl); (case h5 => rfl)))
local macro_rules | `(tactic| walk_at "gs") => `(tactic| repeat first | walk_at "s1" | walk_at "g1")
local macro_rules | `(tactic| walk_at "ite") => `(tactic| first
  | ((with_reducible refine' w_iteT ?h1 ?_); (case h1 => omega))
  | ((with_reducible refine' w_iteF ?h1 ?_); (case h1 => omega))
  | (with_reducible refine w_ite ?_ ?_ <;> intro hq)
  | ((with_reducible refine' w_iteNT ?h1 ?_); (case h1 => omega))
  | ((with_reducible refine' w_iteNF ?h1 ?_); (case h1 => omega))
  | (with_reducible refine w_iteN ?_ ?_ <;> intro hq))
local macro_rules | `(tactic| walk_at "go") => `(tactic| repeat' first | walk_at "s1" | walk_at "g1" | walk_at "ite")
section
variable {P : Program} {w : World} {K : PySem.W.Frag} {mg : Str → Option Value} {base : Heap} {aREG aOPS : Addr}
def isR (v : V) (lo hi : Int) : Bool := match v with
  | .int i => decide (lo ≤ i ∧ i ≤ hi)
  | _ => false
def isI (v : V) : Bool := match v with
  | .int _ => true
  | _ => false
abbrev isW (v : V) : Bool := isR v 0 65535
section
variable {D : Nat} {G : Pins} {f g h : Addr} {fd gd kd : FuncData} {v : V} {t : String} {lo hi : Int}
theorem rf_integer (T : Txt K mg aREG aOPS) (M : Mod K mg base) (d : FunT K "is_integer" s_is_integer f fd) (kv : KV G v t) (hD : D < recursionLimit) : RF P w base D f [v] G (.bl (isI v)) := by
  refine rf_of d M sc_is_integer (by decide +kernel) (by decide +kernel) (fun _ _ _ _ _ _ us hl => match us, hl with | [_], _ => rfl) rfl (by omega) fun env c => ?_
  have hx : ∀ {p : Pos}, RE P w base (D + 1) env ([(("x" : Str), v)]) G (.Name "x" p) v := fun {p} => re_name c rfl (List.mem_cons_self ..)
  have hi : ∀ {p : Pos}, RE P w base (D + 1) env ([(("x" : Str), v)]) G (.Name "int" p) (.ty "int") := fun {p} => re_blt M c rfl T.b_int (by rfl) rfl
  have hb : ∀ {p : Pos}, RE P w base (D + 1) env ([(("x" : Str), v)]) G (.Name "bool" p) (.ty "bool") := fun {p} => re_blt M c rfl T.b_bool (by rfl) rfl
  cases kv with
  | int => exact re_andT (re_isi M c rfl T.b_isinstance hx hi .int (kit_ty k_ii)) (re_not (re_isi M c rfl T.b_isinstance hx hb .int (kit_ty k_ib)))
  | bl => exact re_andT (re_isi M c rfl T.b_isinstance hx hi .bl (kit_ty k_bi)) (re_not (re_isi M c rfl T.b_isinstance hx hb .bl (kit_ty k_bb)))
  | non => exact re_andF (re_isi M c rfl T.b_isinstance hx hi .non (kit_ty k_ni))
  | str => exact re_andF (re_isi M c rfl T.b_isinstance hx hi .str (kit_ty k_si))
  | lst q1 q2 => exact re_andF (re_isi M c rfl T.b_isinstance hx hi (.lst q1 q2) (kit_ty k_li))
  | tup q1 q2 => exact re_andF (re_isi M c rfl T.b_isinstance hx hi (.tup q1 q2) (kit_ty k_ti))
  | dct q1 q2 => exact re_andF (re_isi M c rfl T.b_isinstance hx hi (.dct q1 q2) (kit_ty (by decide +kernel)))
theorem rf_range (T : Txt K mg aREG aOPS) (M : Mod K mg base) (d1 : FunT K "is_integer" s_is_integer f fd) (m1 : mg "is_integer" = some (.ref f)) (d : FunT K "is_in_range" s_is_in_range g gd) (kv : KV G v t) (hD : D + 1 < recursionLimit) : RF P w base D g [v, .int lo, .int hi] G (.bl (isR v lo hi)) := by
  refine rf_of d M sc_is_in_range (by decide +kernel) (by decide +kernel) (fun _ _ _ _ _ _ us hl => match us, hl with | [_, _, _], _ => rfl) rfl (by omega) fun env c => ?_
  have F := rf_integer (P := P) (w := w) (D := D + 1) T M d1 kv (by omega)
  have hx : ∀ {p : Pos}, RE P w base (D + 1) env ([(("x" : Str), v), (("least" : Str), .int lo), (("most" : Str), .int hi)]) G (.Name "x" p) v := fun {p} => re_name c rfl (List.mem_cons_self ..)
  cases v with
  | int i =>
    refine re_andT (re_call M c rfl m1 d1.kp F (ra_cons hx ra_nil)) (re_chain ?_ hx ?_)
    · exact re_name c rfl (List.mem_cons_of_mem _ (List.mem_cons_self ..))
    · exact re_name c rfl (List.mem_cons_of_mem _ (List.mem_cons_of_mem _ (List.mem_cons_self ..)))
  | _ => exact re_andF (re_call M c rfl m1 d1.kp F (ra_cons hx ra_nil))
theorem rf_word (T : Txt K mg aREG aOPS) (M : Mod K mg base) (d1 : FunT K "is_integer" s_is_integer f fd) (m1 : mg "is_integer" = some (.ref f)) (d2 : FunT K "is_in_range" s_is_in_range g gd) (m2 : mg "is_in_range" = some (.ref g)) (d : FunT K "is_word" s_is_word h kd) (kv : KV G v t) (hD : D + 2 < recursionLimit) : RF P w base D h [v] G (.bl (isW v)) := by
  refine rf_of d M sc_is_word (by decide +kernel) (by decide +kernel) (fun _ _ _ _ _ _ us hl => match us, hl with | [_], _ => rfl) rfl (by omega) fun env c => ?_
  have F := rf_range (P := P) (w := w) (D := D + 1) (lo := 0) (hi := 65535) T M d1 m1 d2 kv (by omega)
  have hx : ∀ {p : Pos}, RE P w base (D + 1) env ([(("x" : Str), v)]) G (.Name "x" p) v := fun {p} => re_name c rfl (List.mem_cons_self ..)
  obtain ⟨u, e1, e2⟩ := T.g_WORDS
  exact re_call M c rfl m2 d2.kp F (ra_cons hx (ra_cons re_int (ra_cons (re_sub (re_glob M c rfl e1 e2) re_int) ra_nil)))
end
theorem kh_ty {H : Hp} {v : V} {t : String} (h : KH K H v t) : TyX K H v (.type t) := by
  cases h with
  | non => exact ty_non
  | bl => exact ty_bl
  | int => exact ty_int
  | str => exact ty_str
  | lst e => exact ty_L e
  | tup e => exact ty_T e
def sp_integer (K : PySem.W.Frag) : Sp := fun vs H Q _ => ∃ (v : V) (t : String), vs = [v] ∧ KH K H v t ∧ Q (.bl (isI v)) H
theorem c_integer (T : Txt K mg aREG aOPS) (d : DefAt K mg "is_integer" s_is_integer) : C8.Cal P w K mg base 1 "is_integer" (sp_integer K) [] := by
  refine mk d sc_is_integer (fun _ _ _ _ _ _ us hl => match us, hl with | [_], _ => rfl) (fun vs H Q E h => ?_) (fun f cdv A outer s H vs Q E hr h => ?_)
  · obtain ⟨v, t, rfl, _⟩ := h
    rfl
  · obtain ⟨v, t, rfl, kh, q⟩ := h
    refine ⟨_, (pss_one (ps_ret (pe_and (pe_callB call_isi (by rfl) T.b_isinstance (by decide +kernel) (pa_cons (pv 0) (pa_cons (pe_bltn (v := .ty "int") (by rfl) T.b_int (by decide +kernel) rfl) pa_nil))) (pe_one (pe_not (pe_callB call_isi (by rfl) T.b_isinstance (by decide +kernel) (pa_cons (pv 0) (pa_cons (pe_bltn (v := .ty "bool") (by rfl) T.b_bool (by decide +kernel) rfl) pa_nil)))))))), ?_⟩
    have ty := kh_ty kh
    cases kh <;> (walk_at "s"; exact q)
theorem u_integer {H : Hp} {v : V} {t : String} {Q : VK} {E : XK} (kh : KH K H v t) (q : Q (.bl (isI v)) H) : sp_integer K [v] H Q E := ⟨v, t, rfl, kh, q⟩
def sp_range (K : PySem.W.Frag) : Sp := fun vs H Q _ => ∃ (v : V) (t : String) (lo hi : Int), vs = [v, .int lo, .int hi] ∧ KH K H v t ∧ Q (.bl (isR v lo hi)) H
theorem u_range {H : Hp} {v : V} {t : String} {lo hi : Int} {Q : VK} {E : XK} (kh : KH K H v t) (q : Q (.bl (isR v lo hi)) H) : sp_range K [v, .int lo, .int hi] H Q E := ⟨v, t, lo, hi, rfl, kh, q⟩
theorem c_range (T : Txt K mg aREG aOPS) (d : DefAt K mg "is_in_range" s_is_in_range) (c_is_integer : C8.Cal P w K mg base 1 "is_integer" (sp_integer K) []) : C8.Cal P w K mg base 2 "is_in_range" (sp_range K) [] := by
  refine mk d sc_is_in_range (fun _ _ _ _ _ _ us hl => match us, hl with | [_, _, _], _ => rfl) (fun vs H Q E h => ?_) (fun f cdv A outer s H vs Q E hr h => ?_)
  · obtain ⟨v, t, lo, hi, rfl, _⟩ := h
    rfl
  · obtain ⟨v, t, lo, hi, rfl, kh, q⟩ := h
    refine ⟨_, (pss_one (ps_ret (pe_and (C8.pe_c c_is_integer hr (by first | decide | omega) rfl (pa_cons (pv 0) pa_nil)) (pe_one (pe_chain op_le op_le (pv 1) (pv 0) (pv 2)))))), ?_⟩
    walk_at "s"
    refine u_integer kh ?_
    cases kh with
    | int =>
      walk_at "s"
      show tChain (rI0 fun i j => V.bl (decide (i ≤ j))) (rI0 fun i j => V.bl (decide (i ≤ j))) (tVar 1) (tVar 0) (tVar 2) _ H _
      rename_i i
      refine ⟨_, rfl, _, rfl, _, _, rfl, rfl, _, rfl, ?_⟩
      by_cases h1 : lo ≤ i
      · rw [decide_eq_true h1]
        refine ⟨_, rfl, _, _, rfl, rfl, ?_⟩
        have e : decide (i ≤ hi) = isR (.int i) lo hi := by simp [isR, h1]
        show Q (.bl (decide (i ≤ hi))) H
        rw [e]
        exact q
      · rw [decide_eq_false h1]
        have e : false = isR (.int i) lo hi := by simp [isR, h1]
        show Q (.bl false) H
        rw [e]
        exact q
    | _ =>
      walk_at "s"
      exact q
def sp_word1 (K : PySem.W.Frag) : Sp := fun vs H Q _ => ∃ (v : V) (t : String), vs = [v] ∧ KH K H v t ∧ Q (.bl (isW v)) H
theorem u_isword {H : Hp} {v : V} {t : String} {Q : VK} {E : XK} (kh : KH K H v t) (q : Q (.bl (isW v)) H) : sp_word1 K [v] H Q E := ⟨v, t, rfl, kh, q⟩
theorem c_isword (T : Txt K mg aREG aOPS) (d : DefAt K mg "is_word" s_is_word) (c_is_in_range : C8.Cal P w K mg base 2 "is_in_range" (sp_range K) []) : C8.Cal P w K mg base 3 "is_word" (sp_word1 K) [] := by
  refine mk d sc_is_word (fun _ _ _ _ _ _ us hl => match us, hl with | [_], _ => rfl) (fun vs H Q E h => ?_) (fun f cdv A outer s H vs Q E hr h => ?_)
  · obtain ⟨v, t, rfl, _⟩ := h
    rfl
  · obtain ⟨v, t, rfl, kh, q⟩ := h
    refine ⟨_, (pss_one (ps_ret (C8.pe_c c_is_in_range hr (by first | decide | omega) rfl (pa_cons (pv 0) (pa_cons pe_int (pa_cons (pe_op op_sub (C8.pe_gc rfl T.g_WORDS) pe_int) pa_nil)))))), ?_⟩
    walk_at "s"
    exact u_range kh q
/-- are_words -/
def sp_words (K : PySem.W.Frag) (tP : Addr) : Sp := fun vs H Q _ => ∃ (y : Addr) (xs : List V), vs = [.ref y] ∧ (SqL K H y xs ∨ SqT K H y xs) ∧ (∀ v ∈ xs, ∃ t, KH K H v t) ∧ GxR.TabG H tP ∧ ∀ H2, GxR.Tabbed tP H H2 → Q (.bl (xs.all isW)) H2
theorem c_words {c tP : Addr} (T : Txt K mg aREG aOPS) (TB : GxR.TabB base mg c tP) (d : DefAtC K mg "are_words" s_are_words c) (d1 : DefAt K mg "is_integer" s_is_integer) (d2 : DefAt K mg "is_in_range" s_is_in_range) (d3 : DefAt K mg "is_word" s_is_word) : C8.Cal P w K mg base 4 "are_words" (sp_words K tP) [] := by
  obtain ⟨f1, fd1, F1, m1⟩ := d1
  obtain ⟨f2, fd2, F2, m2⟩ := d2
  obtain ⟨f3, fd3, F3, m3⟩ := d3
  refine mkC d sc_are_words (fun _ _ _ _ _ _ us hl => match us, hl with | [_], _ => rfl) (fun vs H Q E h => ?_) (fun f A outer s H vs Q E hr h => ?_)
  · obtain ⟨y, xs, rfl, _⟩ := h
    rfl
  · obtain ⟨y, xs, rfl, hy, hk, hT, q⟩ := h
    have hD : (A.deeper (envOfC "are_words" (defScope s_are_words) s.heap.objs.size f (.ref c))).depth + 1 + 2 < recursionLimit := by have := hr.dp; omega
    refine ⟨_, pss_one (ps_ret (pe_allV (pb := isW) hr rfl T.b_all TB rfl ⟨rfl, rfl, by decide +kernel, rfl, rfl, fun y hy hf => absurd hf (by revert y; decide +kernel)⟩ (pv 0) (fun M cenv G v t rc kv => ?_) (fun _ => rfl))), ?_⟩
    · exact re_call M rc rfl m3 F3.kp (rf_word (f := f1) (g := f2) T M F1 m1 F2 m2 F3 kv hD) (ra_cons (re_name rc rfl (List.mem_cons_self ..)) ra_nil)
    · walk_at "s"
      exact ⟨_, rfl, y, xs, rfl, hy, hk, hT, q⟩
theorem u_words {tP y : Addr} {xs : List V} {r : Bool} {H : Hp} {Q : VK} {E : XK} (hy : SqL K H y xs ∨ SqT K H y xs) (hk : ∀ v ∈ xs, ∃ t, KH K H v t) (hT : GxR.TabG H tP) (e : xs.all isW = r) (q : ∀ H2, GxR.TabG H2 tP → Upt [tP] H H2 → Q (.bl r) H2) : sp_words K tP [.ref y] H Q E :=
  ⟨y, xs, rfl, hy, hk, hT, fun H2 h => e ▸ q H2 h.1 fun b o n e => (h.2 b fun z => n (List.mem_singleton.mpr z)).trans e⟩
end
end K46
set_option Elab.async false
set_option linter.all false
set_option maxRecDepth 100000
set_option maxHeartbeats 4000000
namespace K46
open PySem PySem.Spec PyProof.Rows L2 Wk
local macro_rules | `(tactic| walk_at "u1") => `(tactic| fail "no more")
local macro_rules | `(tactic| walk_at "pos") => `(tactic| first | assumption | omega | decide | (simp only [Int.ofNat_eq_natCast] at *; omega))
local macro_rules | `(tactic| walk_at "sz") => `(tactic| first
  | (simp only [List.length_cons, List.length_nil]; decide)
  | exact Evl.sz_of (by omega)
  | exact Evl.sz_lt (by omega)
  | exact Evl.sz_of (by simp only [List.length_map, List.length_append, List.length_cons, List.length_nil, List.length_replicate]; omega)
  | exact Evl.sz_lt (by simp only [List.length_map, List.length_append, List.length_cons, List.length_nil, List.length_replicate]; omega))
local macro_rules | `(tactic| walk_at "cond") => `(tactic| first
  | exact Or.inr ⟨by decide, by decide⟩
  | (show (0 : Int) < _; first | decide | assumption | omega)
  | exact Or.inl ⟨by omega, by omega⟩
  | exact Or.inr ⟨by omega, by omega⟩
  | exact ⟨by decide, by decide, by decide⟩
  | exact log2_lt (by omega) (by omega)
  | exact ⟨by omega, by omega⟩)
local macro_rules | `(tactic| walk_at "ty") => `(tactic| first
  | exact ty_int | exact ty_bl | exact ty_str | exact ty_non
  | exact ty_L (by assumption) | exact ty_T (by assumption)
  | exact ty_L (SqL.of (by assumption)) | exact ty_T (SqT.of (by assumption)))
local macro_rules | `(tactic| walk_at "kit") => `(tactic| first
  | exact k_ii | exact k_ib | exact k_is | exact k_il | exact k_it
  | exact k_bb | exact k_bi | exact k_bs | exact k_bl | exact k_bt
  | exact k_ss | exact k_sb | exact k_si | exact k_sl | exact k_st
  | exact k_ll | exact k_lb | exact k_li | exact k_ls | exact k_lt
  | exact k_tt | exact k_tb | exact k_ti | exact k_ts | exact k_tl
  | exact k_nn | exact k_ni | exact k_ns | exact k_nl | exact k_nt)
local macro_rules | `(tactic| walk_at "s1") => `(tactic| first
  | with_reducible refine w_seq ?_
  | with_reducible refine w_set ?_
  | with_reducible refine w_op ?_
  | ((with_reducible refine' w_var ?h1 ?_); (case h1 => rfl))
  | with_reducible refine w_c ?_
  | with_reducible refine w_cb ?_
  | with_reducible refine w_cons ?_
  | with_reducible refine w_nil ?_
  | with_reducible refine w_I0 ?_
  | ((with_reducible refine' w_I ?c1 ?_); case c1 => walk_at "cond")
  | with_reducible refine w_ret ?_
  | with_reducible refine w_next ?_
  | with_reducible refine w_ifS ?_
  | with_reducible refine w_test ?_
  | with_reducible refine w_tB ?_
  | with_reducible refine w_k ?_
  | with_reducible refine w_eqI ?_
  | with_reducible refine w_neI ?_
  | with_reducible refine w_eqS ?_
  | with_reducible refine w_neS ?_
  | with_reducible refine w_and ?_
  | with_reducible refine w_or ?_
  | with_reducible refine w_not ?_
  | with_reducible refine w_andV ?_
  | with_reducible refine w_orV ?_
  | with_reducible refine w_notV ?_
  | with_reducible refine w_ifE ?_
  | with_reducible refine w_true ?_
  | with_reducible refine w_false ?_
  | with_reducible refine w_ntrue ?_
  | with_reducible refine w_nfalse ?_
  | with_reducible refine w_call ?_
  | with_reducible refine c_int ?_
  | with_reducible refine c_abs ?_
  | with_reducible refine c_max ?_
  | with_reducible refine c_min ?_
  | with_reducible refine w_drop ?_
  | with_reducible refine w_sfld ?_
  | with_reducible refine w_meth ?_
  | with_reducible refine w_make ?_
  | with_reducible refine w_prop ?_
  | with_reducible refine w_callK ?_
  | with_reducible refine w_callN ?_
  | with_reducible refine w_star ?_
  | with_reducible refine w_gcons ?_
  | with_reducible refine w_gname ?_
  | with_reducible refine w_gnil ?_
  | with_reducible refine w_retN ?_
  | with_reducible refine w_tup ?_
  | with_reducible refine w_lst ?_
  | with_reducible refine w_fld ?_
  | with_reducible refine w_bm ?_
  | with_reducible refine w_bm0 ?_
  | with_reducible refine w_forL ?_
  | with_reducible refine w_forT ?_
  | with_reducible refine w_forS ?_
  | with_reducible refine w_forR ?_
  | with_reducible refine w_lcR ?_
  | with_reducible refine w_lcL ?_
  | with_reducible refine w_lcT ?_
  | with_reducible refine w_isN ?_
  | with_reducible refine w_notN ?_
  | with_reducible refine w_asg ?_
  | with_reducible refine w_gsub ?_
  | ((with_reducible refine' w_aug ?h1 ?_); (case h1 => rfl))
  | with_reducible refine w_augS ?_
  | with_reducible refine w_ipI ?_
  | with_reducible refine w_un ?_
  | with_reducible refine w_U ?_
  | ((with_reducible refine' w_iteF ?f1 ?_); case f1 => (first | (intro h; cases h; done) | decide))
  | ((with_reducible refine' w_iteT ?f1 ?_); case f1 => rfl)
  | ((with_reducible refine' w_iteNF ?f1 ?_); case f1 => rfl)
  | ((with_reducible refine' w_iteNT ?f1 ?_); case f1 => (first | (intro h; cases h; done) | decide))
  | ((with_reducible refine' c_isi ?t1 ?k1 ?_); (case t1 => walk_at "ty"); (case k1 => walk_at "kit"))
  | ((with_reducible refine' w_eq ?e1 ?_); case e1 => rfl)
  | ((with_reducible refine' w_ne ?e1 ?_); case e1 => rfl)
  | walk_at "u1")
local macro_rules | `(tactic| walk_at "s") => `(tactic| repeat walk_at "s1")
local macro_rules | `(tactic| walk_at "mem") => `(tactic| first | with_reducible exact List.mem_cons_self .. | ((with_reducible refine' List.mem_cons_of_mem _ ?q); (case q => walk_at "mem")) | assumption | ((with_reducible refine' List.mem_append_right _ ?q); (case q => walk_at "mem")) | (exact List.mem_append_left _ (by assumption)))
local macro_rules | `(tactic| walk_at "pk") => `(tactic| first | with_reducible exact Pk.here | ((with_reducible refine' Pk.there ?q); (case q => walk_at "pk")) | ((with_reducible refine' Pk.app ?q); (case q => walk_at "pk")))
local macro_rules | `(tactic| walk_at "pkb") => `(tactic| first | with_reducible exact PkB.here | ((with_reducible refine' PkB.there ?q); (case q => walk_at "pkb")) | ((with_reducible refine' PkB.app ?q); (case q => walk_at "pkb")))
local macro_rules | `(tactic| walk_at "spl") => `(tactic| first | with_reducible exact Spl.nil | ((with_reducible refine' Spl.cons ?h ?t); (case h => walk_at "pk"); (case t => walk_at "spl")) | ((with_reducible refine' Spl.blk ?h ?t); (case h => walk_at "pkb"); (case t => walk_at "spl")))
local macro_rules | `(tactic| walk_at "sbx") => `(tactic| first | with_reducible exact Sb.refl | with_reducible exact Sb.nil | with_reducible exact Sb.left | ((with_reducible refine' Sb.cons ?h ?t); (case h => walk_at "pk"); (case t => walk_at "sbx")) | ((with_reducible refine' Sb.blk ?h ?t); (case h => walk_at "pkb"); (case t => walk_at "sbx")) | ((with_reducible refine' Sb.drop ?q); (case q => walk_at "sbx")) | ((with_reducible refine' Sb.right ?q); (case q => walk_at "sbx")))
local macro_rules | `(tactic| walk_at "hd") => `(tactic| first | assumption | exact Hd.sb (by assumption) (by walk_at "sbx"))
local macro_rules | `(tactic| walk_at "sq") => `(tactic| first
  | assumption
  | exact Hd.sqL (by assumption) (by walk_at "mem")
  | exact Hd.sqT (by assumption) (by walk_at "mem")
  | exact Hd.sqF (by assumption) (by walk_at "mem")
  | (refine .inl ?_; walk_at "sq")
  | (refine .inr ?_; walk_at "sq"))
local macro_rules | `(tactic| walk_at "at") => `(tactic| first | rfl | assumption | exact atI_nat (by assumption))
local macro_rules | `(tactic| walk_at "dn1") => `(tactic| first
  | exact Dn.int | exact Dn.str | exact Dn.non | exact Dn.bl | assumption
  | ((refine' Dn.tp ?a1 ?m1 ?l1 ?p1); (case a1 => assumption); (case m1 => walk_at "mem"); (case l1 => (simp only [List.length_cons, List.length_nil]; omega)); (case p1 => walk_at "dns"))
  | ((refine' Dn.lt ?a1 ?m1 ?l1 ?p1); (case a1 => assumption); (case m1 => walk_at "mem"); (case l1 => (simp only [List.length_cons, List.length_nil]; omega)); (case p1 => walk_at "dns")))
local macro_rules | `(tactic| walk_at "dns") => `(tactic| first | exact Paired.nil | exact Dn.ints | ((refine' Paired.cons ?a1 ?b1); (case a1 => walk_at "dn1"); (case b1 => walk_at "dns")))
local macro_rules | `(tactic| walk_at "g1") => `(tactic| first
  | ((with_reducible refine' g_ixI ?h1 ?h2 ?h3 ?_); (case h1 => assumption); (case h2 => walk_at "mem"); (case h3 => omega); intro z hz)
  | ((with_reducible refine' g_ixIT ?h1 ?h2 ?h3 ?_); (case h1 => assumption); (case h2 => walk_at "mem"); (case h3 => omega); intro z hz)
  | ((with_reducible refine' g_setI ?h1 ?h2 ?h3 ?_); (case h1 => assumption); (case h2 => walk_at "pk"); (case h3 => omega); intro H2 hh2)
  | ((with_reducible refine' w_ixL ?h1 ?h2 ?_); (case h1 => walk_at "sq"); (case h2 => walk_at "at"))
  | ((with_reducible refine' w_ixT ?h1 ?h2 ?_); (case h1 => walk_at "sq"); (case h2 => walk_at "at"))
  | ((with_reducible refine' w_ixAny ?h1 ?h2 ?_); (case h1 => walk_at "sq"); (case h2 => walk_at "at"))
  | ((with_reducible refine' c_lenA ?h1 ?_); (case h1 => walk_at "sq"))
  | ((with_reducible refine' c_isi ?t1 ?k1 ?_); (case t1 => first | exact ty_T (by walk_at "sq") | exact ty_L (by walk_at "sq")); (case k1 => walk_at "kit"))
  | ((with_reducible refine' g_lst ?h1 ?h2 ?_); (case h1 => assumption); (case h2 => walk_at "sz"); intro p H2 hh2)
  | ((with_reducible refine' g_tup ?h1 ?h2 ?_); (case h1 => assumption); (case h2 => walk_at "sz"); intro p H2 hh2)
  | ((with_reducible refine' g_dict ?h1 ?_); (case h1 => assumption); intro p H2 hh2)
  | ((with_reducible refine' g_listL ?h1 ?h2 ?_); (case h1 => assumption); (case h2 => walk_at "sq"); intro p H2 hh2)
  | ((with_reducible refine' g_listT ?h1 ?h2 ?_); (case h1 => assumption); (case h2 => walk_at "sq"); intro p H2 hh2)
  | ((with_reducible refine' g_tupL ?h1 ?h2 ?_); (case h1 => assumption); (case h2 => walk_at "sq"); intro p H2 hh2)
  | ((with_reducible refine' g_set ?h1 ?h2 ?h3 ?_); (case h1 => assumption); (case h2 => walk_at "pk"); (case h3 => first | rfl | assumption | exact Evl.ixN_nat (by first | omega | (simp only [List.length_cons, List.length_nil]; omega))); intro H2 hh2)
  | ((with_reducible refine' g_kbm ?h1 ?h2 ?_); (case h1 => assumption); (case h2 => walk_at "mem"))
  | ((with_reducible refine' g_kbm0 ?h1 ?h2 ?_); (case h1 => assumption); (case h2 => walk_at "mem"))
  | ((with_reducible refine' g_app ?h1 ?h2 ?h3 ?_); (case h1 => assumption); (case h2 => walk_at "pk"); (case h3 => walk_at "sz"); intro H2 hh2)
  | ((with_reducible refine' g_kapp ?h1 ?h2 ?h3 ?_); (case h1 => assumption); (case h2 => walk_at "pk"); (case h3 => walk_at "sz"); intro H2 hh2)
  | ((with_reducible refine' g_fld ?h1 ?h2 ?h3 ?h4 ?h5 ?_); (case h1 => assumption); (case h2 => walk_at "mem"); (case h3 => assumption); (case h4 => assumption); (case h5 => rfl))
  | ((with_reducible refine' g_sfld ?h1 ?h2 ?h3 ?h4 ?h5 ?_); (case h1 => assumption); (case h2 => walk_at "pk"); (case h3 => assumption); (case h4 => assumption); (case h5 => decide); intro H2 hh2)
  | ((with_reducible refine' g_meth ?h1 ?h2 ?h3 ?_); (case h1 => assumption); (case h2 => walk_at "mem"); (case h3 => rfl))
  | ((with_reducible refine' g_prop ?h1 ?h2 ?_); (case h1 => assumption); (case h2 => walk_at "mem"))
  | ((with_reducible refine' g_make ?h1 ?_); (case h1 => assumption); intro x H2 hh2)
  | ((with_reducible refine' g_cat ?h1 ?h2 ?h3 ?h4 ?_); (case h1 => assumption); (case h2 => walk_at "mem"); (case h3 => walk_at "mem"); (case h4 => walk_at "sz"); intro p H2 hh2)
  | ((with_reducible refine' g_inT ?h1 ?h2 ?h3 ?h4 ?h5 ?_); (case h1 => assumption); (case h2 => walk_at "mem"); (case h3 => rfl); (case h4 => rfl); (case h5 => rfl)))
local macro_rules | `(tactic| walk_at "gs") => `(tactic| repeat first | walk_at "s1" | walk_at "g1")
local macro_rules | `(tactic| walk_at "ite") => `(tactic| first
  | ((with_reducible refine' w_iteT ?h1 ?_); (case h1 => omega))
  | ((with_reducible refine' w_iteF ?h1 ?_); (case h1 => omega))
  | (with_reducible refine w_ite ?_ ?_ <;> intro hq)
  | ((with_reducible refine' w_iteNT ?h1 ?_); (case h1 => omega))
  | ((with_reducible refine' w_iteNF ?h1 ?_); (case h1 => omega))
  | (with_reducible refine w_iteN ?_ ?_ <;> intro hq))
local macro_rules | `(tactic| walk_at "go") => `(tactic| repeat' first | walk_at "s1" | walk_at "g1" | walk_at "ite")
section
variable {P : Program} {w : World} {K : PySem.W.Frag} {mg : Str → Option Value} {base : Heap} {aREG aOPS : Addr}
/-! ### the draws, over the ledger -/
def stoC (st c : Addr) : Cell := (st, fun o => ∃ i b t z : Int, o = .lst [.ref c, .int i, .int b, .int t, .int z] ∧ 0 ≤ i ∧ 0 ≤ b ∧ 0 ≤ z ∧ z < 2147483647)
def scrC (c : Addr) : Cell := (c, fun o => ∃ ns : List Int, o = .lst (ns.map V.int))
section
variable {st c : Addr} {H H' : Hp} {L R : List Cell} {Q : VK} {E : XK}
theorem Hd.sto (h : Hd H L) (m1 : stoC st c ∈ L) (m2 : scrC c ∈ L) : StoreAt H st c := by
  obtain ⟨o, e, i, b, t, z, q, r⟩ := h.at_ _ m1
  obtain ⟨u, e2, ns, q2⟩ := h.at_ _ m2
  subst q; subst q2
  exact ⟨ns, i, b, t, z, e, e2, r⟩
theorem Hd.ofSto (S : StoreAt H st c) : Hd H [stoC st c, scrC c] := by
  have ne := S.ne
  obtain ⟨ns, i, b, t, z, e1, e2, r⟩ := S
  exact Hd.two (c := stoC st c) (d := scrC c) e1 ⟨i, b, t, z, rfl, r⟩ e2 ⟨ns, rfl⟩ (Ne.symm ne)
theorem Hd.st0 (h : Hd H (stoC st c :: scrC c :: R)) : StoreAt H st c := Hd.sto h (List.mem_cons_self ..) (List.mem_cons_of_mem _ (List.mem_cons_self ..))
theorem Hd.drawn (h : Hd H (stoC st c :: scrC c :: R)) (S : StoreAt H' st c) (u : Upt [st] H H') : Hd H' (stoC st c :: scrC c :: R) :=
  Hd.put (A := [stoC st c, scrC c]) (B := [stoC st c, scrC c]) h u (fun a ha => by rw [List.mem_singleton.mp ha]; exact List.mem_cons_self ..) (Hd.ofSto S) fun c hc => .inl (List.mem_map_of_mem hc)
theorem g_store {a : Addr} {ns : List Int} {z : Int} (hh : Hd H L) (h : SqL K H a (ns.map V.int)) (hl : ns.length ≤ 63) (h0 : 0 ≤ z) (h1 : z ≤ 200000) (q : ∀ st c H', Hd H' (stoC st c :: scrC c :: L) → Q (.ref st) H') : sp_store K [.ref a, .int z] H Q E :=
  u_store h hl h0 h1 fun st c H' n1 n2 S u => q st c H' (Hd.put (A := []) (B := [stoC st c, scrC c]) (S := []) hh u (by simp) (Hd.ofSto S) fun x hx => by
    rcases List.mem_cons.mp hx with rfl | hx
    · exact .inr n1
    · rw [List.mem_singleton.mp hx]; exact .inr n2)
theorem g_take {m : Int} (hh : Hd H L) (s : Spl L [stoC st c, scrC c] R) (hm : m ≤ 4611686018427387904) (q : ∀ (k : Nat) H', ((k : Int) < m ∨ k = 0) → Hd H' (stoC st c :: scrC c :: R) → Q (.int k) H') : sp_take [.ref st, .int m] H Q E :=
  have h := hh.spl s
  u_take (Hd.st0 h) hm fun k H' hk S u => by
    obtain ⟨j, rfl⟩ := Int.eq_ofNat_of_zero_le hk.1
    exact q j H' (by have := hk.2; omega) (Hd.drawn h S u)
theorem g_take1 {m : Int} (hh : Hd H L) (s : Spl L [stoC st c, scrC c] R) (hm : 0 < m) (hm2 : m ≤ 4611686018427387904) (q : ∀ (k : Nat) H', (k : Int) < m → Hd H' (stoC st c :: scrC c :: R) → Q (.int k) H') : sp_take [.ref st, .int m] H Q E :=
  g_take hh s hm2 fun k H' h0 hh' => q k H' (by omega) hh'
theorem g_pick {r : Addr} {xs : List V} (hh : Hd H L) (s : Spl L [stoC st c, scrC c] R) (m : lstC r xs ∈ R) (h0 : 0 < xs.length) (h1 : xs.length ≤ 100000) (q : ∀ v H', v ∈ xs → Hd H' (stoC st c :: scrC c :: R) → Q v H') : sp_pick K [.ref st, .ref r] H Q E :=
  have h := hh.spl s
  u_pick (Hd.st0 h) (h.sqL (List.mem_cons_of_mem _ (List.mem_cons_of_mem _ m))) (h.ne (c := stoC st c) (d := lstC r xs) (List.mem_cons_of_mem _ m)) h0 h1 fun v H' hv S u => q v H' hv (Hd.drawn h S u)
theorem g_between {lo hi : Int} (hh : Hd H L) (s : Spl L [stoC st c, scrC c] R) (h0 : lo ≤ hi) (h1 : hi - lo < 4611686018427387904) (q : ∀ k H', lo ≤ k → k ≤ hi → Hd H' (stoC st c :: scrC c :: R) → Q (.int k) H') : sp_between [.ref st, .int lo, .int hi] H Q E :=
  have h := hh.spl s
  u_between (Hd.st0 h) h0 h1 fun k H' hk S u => q k H' hk.1 hk.2 (Hd.drawn h S u)
theorem g_betweenN {lo hi : Int} (hh : Hd H L) (s : Spl L [stoC st c, scrC c] R) (hn : 0 ≤ lo) (h0 : lo ≤ hi) (h1 : hi - lo < 4611686018427387904) (q : ∀ (k : Nat) H', lo ≤ k → (k : Int) ≤ hi → Hd H' (stoC st c :: scrC c :: R) → Q (.int k) H') : sp_between [.ref st, .int lo, .int hi] H Q E :=
  g_between hh s h0 h1 fun k H' a b hh' => by
    obtain ⟨j, rfl⟩ := Int.eq_ofNat_of_zero_le (show 0 ≤ k by omega)
    exact q j H' a b hh'
theorem g_size {m : Int} (hh : Hd H L) (s : Spl L [stoC st c, scrC c] R) (h0 : 0 ≤ m) (h1 : m ≤ 1000000) (q : ∀ (k : Nat) H', (k : Int) ≤ m → Hd H' (stoC st c :: scrC c :: R) → Q (.int k) H') : sp_size [.ref st, .int m] H Q E :=
  have h := hh.spl s
  u_size (Hd.st0 h) h0 h1 fun k H' hk S u => by
    obtain ⟨j, rfl⟩ := Int.eq_ofNat_of_zero_le hk.1
    exact q j H' hk.2 (Hd.drawn h S u)
theorem g_word (hh : Hd H L) (s : Spl L [stoC st c, scrC c] R) (q : ∀ (k : Nat) H', k ≤ 65535 → Hd H' (stoC st c :: scrC c :: R) → Q (.int k) H') : sp_word [.ref st] H Q E :=
  have h := hh.spl s
  u_word (Hd.st0 h) fun k H' hk S u => by
    obtain ⟨j, rfl⟩ := Int.eq_ofNat_of_zero_le hk.1
    exact q j H' (by omega) (Hd.drawn h S u)
theorem g_alike {n : Nat} {v1 v2 : V} {d : PyData} (h1 : Dn K [] H n v1 d) (h2 : Dn K [] H n v2 d) (q : Q (.bl true) H) : sp_alike K (n + 1) [v1, v2] H Q E := ⟨v1, v2, d, rfl, ⟨h1, h2⟩, q⟩
end
theorem rep_ints {k : Int} : ∀ n : Nat, (List.replicate n [V.int k]).flatten = (List.replicate n k).map V.int
  | 0 => rfl
  | n + 1 => by rw [List.replicate_succ, List.flatten_cons, rep_ints n, List.replicate_succ, List.map_cons]; rfl
end
end K46
set_option Elab.async false
set_option linter.all false
set_option maxRecDepth 100000
set_option maxHeartbeats 4000000
namespace K46
open PySem PySem.Spec PyProof.Rows L2 Wk
local macro_rules | `(tactic| walk_at "u1") => `(tactic| fail "no more")
local macro_rules | `(tactic| walk_at "pos") => `(tactic| first | assumption | omega | decide | (simp only [Int.ofNat_eq_natCast] at *; omega))
local macro_rules | `(tactic| walk_at "sz") => `(tactic| first
  | (simp only [List.length_cons, List.length_nil]; decide)
  | exact Evl.sz_of (by omega)
  | exact Evl.sz_lt (by omega)
  | exact Evl.sz_of (by simp only [List.length_map, List.length_append, List.length_cons, List.length_nil, List.length_replicate]; omega)
  | exact Evl.sz_lt (by simp only [List.length_map, List.length_append, List.length_cons, List.length_nil, List.length_replicate]; omega))
local macro_rules | `(tactic| walk_at "cond") => `(tactic| first
  | exact Or.inr ⟨by decide, by decide⟩
  | (show (0 : Int) < _; first | decide | assumption | omega)
  | exact Or.inl ⟨by omega, by omega⟩
  | exact Or.inr ⟨by omega, by omega⟩
  | exact ⟨by decide, by decide, by decide⟩
  | exact log2_lt (by omega) (by omega)
  | exact ⟨by omega, by omega⟩)
local macro_rules | `(tactic| walk_at "ty") => `(tactic| first
  | exact ty_int | exact ty_bl | exact ty_str | exact ty_non
  | exact ty_L (by assumption) | exact ty_T (by assumption)
  | exact ty_L (SqL.of (by assumption)) | exact ty_T (SqT.of (by assumption)))
local macro_rules | `(tactic| walk_at "kit") => `(tactic| first
  | exact k_ii | exact k_ib | exact k_is | exact k_il | exact k_it
  | exact k_bb | exact k_bi | exact k_bs | exact k_bl | exact k_bt
  | exact k_ss | exact k_sb | exact k_si | exact k_sl | exact k_st
  | exact k_ll | exact k_lb | exact k_li | exact k_ls | exact k_lt
  | exact k_tt | exact k_tb | exact k_ti | exact k_ts | exact k_tl
  | exact k_nn | exact k_ni | exact k_ns | exact k_nl | exact k_nt)
local macro_rules | `(tactic| walk_at "s1") => `(tactic| first
  | with_reducible refine w_seq ?_
  | with_reducible refine w_set ?_
  | with_reducible refine w_op ?_
  | ((with_reducible refine' w_var ?h1 ?_); (case h1 => rfl))
  | with_reducible refine w_c ?_
  | with_reducible refine w_cb ?_
  | with_reducible refine w_cons ?_
  | with_reducible refine w_nil ?_
  | with_reducible refine w_I0 ?_
  | ((with_reducible refine' w_I ?c1 ?_); case c1 => walk_at "cond")
  | with_reducible refine w_ret ?_
  | with_reducible refine w_next ?_
  | with_reducible refine w_ifS ?_
  | with_reducible refine w_test ?_
  | with_reducible refine w_tB ?_
  | with_reducible refine w_k ?_
  | with_reducible refine w_eqI ?_
  | with_reducible refine w_neI ?_
  | with_reducible refine w_eqS ?_
  | with_reducible refine w_neS ?_
  | with_reducible refine w_and ?_
  | with_reducible refine w_or ?_
  | with_reducible refine w_not ?_
  | with_reducible refine w_andV ?_
  | with_reducible refine w_orV ?_
  | with_reducible refine w_notV ?_
  | with_reducible refine w_ifE ?_
  | with_reducible refine w_true ?_
  | with_reducible refine w_false ?_
  | with_reducible refine w_ntrue ?_
  | with_reducible refine w_nfalse ?_
  | with_reducible refine w_call ?_
  | with_reducible refine c_int ?_
  | with_reducible refine c_abs ?_
  | with_reducible refine c_max ?_
  | with_reducible refine c_min ?_
  | with_reducible refine w_drop ?_
  | with_reducible refine w_sfld ?_
  | with_reducible refine w_meth ?_
  | with_reducible refine w_make ?_
  | with_reducible refine w_prop ?_
  | with_reducible refine w_callK ?_
  | with_reducible refine w_callN ?_
  | with_reducible refine w_star ?_
  | with_reducible refine w_gcons ?_
  | with_reducible refine w_gname ?_
  | with_reducible refine w_gnil ?_
  | with_reducible refine w_retN ?_
  | with_reducible refine w_tup ?_
  | with_reducible refine w_lst ?_
  | with_reducible refine w_fld ?_
  | with_reducible refine w_bm ?_
  | with_reducible refine w_bm0 ?_
  | with_reducible refine w_forL ?_
  | with_reducible refine w_forT ?_
  | with_reducible refine w_forS ?_
  | with_reducible refine w_forR ?_
  | with_reducible refine w_lcR ?_
  | with_reducible refine w_lcL ?_
  | with_reducible refine w_lcT ?_
  | with_reducible refine w_isN ?_
  | with_reducible refine w_notN ?_
  | with_reducible refine w_asg ?_
  | with_reducible refine w_gsub ?_
  | ((with_reducible refine' w_aug ?h1 ?_); (case h1 => rfl))
  | with_reducible refine w_augS ?_
  | with_reducible refine w_ipI ?_
  | with_reducible refine w_un ?_
  | with_reducible refine w_U ?_
  | ((with_reducible refine' w_iteF ?f1 ?_); case f1 => (first | (intro h; cases h; done) | decide))
  | ((with_reducible refine' w_iteT ?f1 ?_); case f1 => rfl)
  | ((with_reducible refine' w_iteNF ?f1 ?_); case f1 => rfl)
  | ((with_reducible refine' w_iteNT ?f1 ?_); case f1 => (first | (intro h; cases h; done) | decide))
  | ((with_reducible refine' c_isi ?t1 ?k1 ?_); (case t1 => walk_at "ty"); (case k1 => walk_at "kit"))
  | ((with_reducible refine' w_eq ?e1 ?_); case e1 => rfl)
  | ((with_reducible refine' w_ne ?e1 ?_); case e1 => rfl)
  | walk_at "u1")
local macro_rules | `(tactic| walk_at "s") => `(tactic| repeat walk_at "s1")
local macro_rules | `(tactic| walk_at "mem") => `(tactic| first | with_reducible exact List.mem_cons_self .. | ((with_reducible refine' List.mem_cons_of_mem _ ?q); (case q => walk_at "mem")) | assumption | ((with_reducible refine' List.mem_append_right _ ?q); (case q => walk_at "mem")) | (exact List.mem_append_left _ (by assumption)))
local macro_rules | `(tactic| walk_at "pk") => `(tactic| first | with_reducible exact Pk.here | ((with_reducible refine' Pk.there ?q); (case q => walk_at "pk")) | ((with_reducible refine' Pk.app ?q); (case q => walk_at "pk")))
local macro_rules | `(tactic| walk_at "pkb") => `(tactic| first | with_reducible exact PkB.here | ((with_reducible refine' PkB.there ?q); (case q => walk_at "pkb")) | ((with_reducible refine' PkB.app ?q); (case q => walk_at "pkb")))
local macro_rules | `(tactic| walk_at "spl") => `(tactic| first | with_reducible exact Spl.nil | ((with_reducible refine' Spl.cons ?h ?t); (case h => walk_at "pk"); (case t => walk_at "spl")) | ((with_reducible refine' Spl.blk ?h ?t); (case h => walk_at "pkb"); (case t => walk_at "spl")))
local macro_rules | `(tactic| walk_at "sbx") => `(tactic| first | with_reducible exact Sb.refl | with_reducible exact Sb.nil | with_reducible exact Sb.left | ((with_reducible refine' Sb.cons ?h ?t); (case h => walk_at "pk"); (case t => walk_at "sbx")) | ((with_reducible refine' Sb.blk ?h ?t); (case h => walk_at "pkb"); (case t => walk_at "sbx")) | ((with_reducible refine' Sb.drop ?q); (case q => walk_at "sbx")) | ((with_reducible refine' Sb.right ?q); (case q => walk_at "sbx")))
local macro_rules | `(tactic| walk_at "hd") => `(tactic| first | assumption | exact Hd.sb (by assumption) (by walk_at "sbx"))
local macro_rules | `(tactic| walk_at "sq") => `(tactic| first
  | assumption
  | exact Hd.sqL (by assumption) (by walk_at "mem")
  | exact Hd.sqT (by assumption) (by walk_at "mem")
  | exact Hd.sqF (by assumption) (by walk_at "mem")
  | (refine .inl ?_; walk_at "sq")
  | (refine .inr ?_; walk_at "sq"))
local macro_rules | `(tactic| walk_at "at") => `(tactic| first | rfl | assumption | exact atI_nat (by assumption))
local macro_rules | `(tactic| walk_at "dn1") => `(tactic| first
  | exact Dn.int | exact Dn.str | exact Dn.non | exact Dn.bl | assumption
  | ((refine' Dn.tp ?a1 ?m1 ?l1 ?p1); (case a1 => assumption); (case m1 => walk_at "mem"); (case l1 => (simp only [List.length_cons, List.length_nil]; omega)); (case p1 => walk_at "dns"))
  | ((refine' Dn.lt ?a1 ?m1 ?l1 ?p1); (case a1 => assumption); (case m1 => walk_at "mem"); (case l1 => (simp only [List.length_cons, List.length_nil]; omega)); (case p1 => walk_at "dns")))
local macro_rules | `(tactic| walk_at "dns") => `(tactic| first | exact Paired.nil | exact Dn.ints | ((refine' Paired.cons ?a1 ?b1); (case a1 => walk_at "dn1"); (case b1 => walk_at "dns")))
local macro_rules | `(tactic| walk_at "g1") => `(tactic| first
  | ((with_reducible refine' g_ixI ?h1 ?h2 ?h3 ?_); (case h1 => assumption); (case h2 => walk_at "mem"); (case h3 => omega); intro z hz)
  | ((with_reducible refine' g_ixIT ?h1 ?h2 ?h3 ?_); (case h1 => assumption); (case h2 => walk_at "mem"); (case h3 => omega); intro z hz)
  | ((with_reducible refine' g_setI ?h1 ?h2 ?h3 ?_); (case h1 => assumption); (case h2 => walk_at "pk"); (case h3 => omega); intro H2 hh2)
  | ((with_reducible refine' w_ixL ?h1 ?h2 ?_); (case h1 => walk_at "sq"); (case h2 => walk_at "at"))
  | ((with_reducible refine' w_ixT ?h1 ?h2 ?_); (case h1 => walk_at "sq"); (case h2 => walk_at "at"))
  | ((with_reducible refine' w_ixAny ?h1 ?h2 ?_); (case h1 => walk_at "sq"); (case h2 => walk_at "at"))
  | ((with_reducible refine' c_lenA ?h1 ?_); (case h1 => walk_at "sq"))
  | ((with_reducible refine' c_isi ?t1 ?k1 ?_); (case t1 => first | exact ty_T (by walk_at "sq") | exact ty_L (by walk_at "sq")); (case k1 => walk_at "kit"))
  | ((with_reducible refine' g_lst ?h1 ?h2 ?_); (case h1 => assumption); (case h2 => walk_at "sz"); intro p H2 hh2)
  | ((with_reducible refine' g_tup ?h1 ?h2 ?_); (case h1 => assumption); (case h2 => walk_at "sz"); intro p H2 hh2)
  | ((with_reducible refine' g_dict ?h1 ?_); (case h1 => assumption); intro p H2 hh2)
  | ((with_reducible refine' g_listL ?h1 ?h2 ?_); (case h1 => assumption); (case h2 => walk_at "sq"); intro p H2 hh2)
  | ((with_reducible refine' g_listT ?h1 ?h2 ?_); (case h1 => assumption); (case h2 => walk_at "sq"); intro p H2 hh2)
  | ((with_reducible refine' g_tupL ?h1 ?h2 ?_); (case h1 => assumption); (case h2 => walk_at "sq"); intro p H2 hh2)
  | ((with_reducible refine' g_set ?h1 ?h2 ?h3 ?_); (case h1 => assumption); (case h2 => walk_at "pk"); (case h3 => first | rfl | assumption | exact Evl.ixN_nat (by first | omega | (simp only [List.length_cons, List.length_nil]; omega))); intro H2 hh2)
  | ((with_reducible refine' g_kbm ?h1 ?h2 ?_); (case h1 => assumption); (case h2 => walk_at "mem"))
  | ((with_reducible refine' g_kbm0 ?h1 ?h2 ?_); (case h1 => assumption); (case h2 => walk_at "mem"))
  | ((with_reducible refine' g_app ?h1 ?h2 ?h3 ?_); (case h1 => assumption); (case h2 => walk_at "pk"); (case h3 => walk_at "sz"); intro H2 hh2)
  | ((with_reducible refine' g_kapp ?h1 ?h2 ?h3 ?_); (case h1 => assumption); (case h2 => walk_at "pk"); (case h3 => walk_at "sz"); intro H2 hh2)
  | ((with_reducible refine' g_fld ?h1 ?h2 ?h3 ?h4 ?h5 ?_); (case h1 => assumption); (case h2 => walk_at "mem"); (case h3 => assumption); (case h4 => assumption); (case h5 => rfl))
  | ((with_reducible refine' g_sfld ?h1 ?h2 ?h3 ?h4 ?h5 ?_); (case h1 => assumption); (case h2 => walk_at "pk"); (case h3 => assumption); (case h4 => assumption); (case h5 => decide); intro H2 hh2)
  | ((with_reducible refine' g_meth ?h1 ?h2 ?h3 ?_); (case h1 => assumption); (case h2 => walk_at "mem"); (case h3 => rfl))
  | ((with_reducible refine' g_prop ?h1 ?h2 ?_); (case h1 => assumption); (case h2 => walk_at "mem"))
  | ((with_reducible refine' g_make ?h1 ?_); (case h1 => assumption); intro x H2 hh2)
  | ((with_reducible refine' g_cat ?h1 ?h2 ?h3 ?h4 ?_); (case h1 => assumption); (case h2 => walk_at "mem"); (case h3 => walk_at "mem"); (case h4 => walk_at "sz"); intro p H2 hh2)
  | ((with_reducible refine' g_inT ?h1 ?h2 ?h3 ?h4 ?h5 ?_); (case h1 => assumption); (case h2 => walk_at "mem"); (case h3 => rfl); (case h4 => rfl); (case h5 => rfl)))
local macro_rules | `(tactic| walk_at "gs") => `(tactic| repeat first | walk_at "s1" | walk_at "g1")
local macro_rules | `(tactic| walk_at "ite") => `(tactic| first
  | ((with_reducible refine' w_iteT ?h1 ?_); (case h1 => omega))
  | ((with_reducible refine' w_iteF ?h1 ?_); (case h1 => omega))
  | (with_reducible refine w_ite ?_ ?_ <;> intro hq)
  | ((with_reducible refine' w_iteNT ?h1 ?_); (case h1 => omega))
  | ((with_reducible refine' w_iteNF ?h1 ?_); (case h1 => omega))
  | (with_reducible refine w_iteN ?_ ?_ <;> intro hq))
local macro_rules | `(tactic| walk_at "go") => `(tactic| repeat' first | walk_at "s1" | walk_at "g1" | walk_at "ite")
local macro_rules | `(tactic| walk_at "g1") => `(tactic| first
  | ((with_reducible refine' g_take1 ?h1 ?h2 ?h3 ?h4 ?_); (case h1 => assumption); (case h2 => walk_at "spl"); (case h3 => omega); (case h4 => omega); intro k H2 hk1 hh2)
  | ((with_reducible refine' g_take ?h1 ?h2 ?h4 ?_); (case h1 => assumption); (case h2 => walk_at "spl"); (case h4 => omega); intro k H2 hk1 hh2)
  | ((with_reducible refine' g_betweenN ?h1 ?h2 ?h5 ?h3 ?h4 ?_); (case h1 => assumption); (case h2 => walk_at "spl"); (case h5 => omega); (case h3 => omega); (case h4 => omega); intro k H2 hk1 hk2 hh2)
  | ((with_reducible refine' g_between ?h1 ?h2 ?h3 ?h4 ?_); (case h1 => assumption); (case h2 => walk_at "spl"); (case h3 => omega); (case h4 => omega); intro k H2 hk1 hk2 hh2)
  | ((with_reducible refine' g_size ?h1 ?h2 ?h3 ?h4 ?_); (case h1 => assumption); (case h2 => walk_at "spl"); (case h3 => omega); (case h4 => omega); intro k H2 hk1 hh2)
  | ((with_reducible refine' g_word ?h1 ?h2 ?_); (case h1 => assumption); (case h2 => walk_at "spl"); intro k H2 hk1 hh2))
section
variable {P : Program} {w : World} {K : PySem.W.Frag} {mg : Str → Option Value} {base : Heap} {aREG aOPS : Addr}
/-! ### parts of lists -/
theorem cut_hi {xs : List V} {n : Nat} : cutV xs none (some (n : Int)) = xs.take n := by
  unfold cutV
  rw [show HT.sIx xs.length 0 none = 0 from rfl, List.drop_zero, Nat.sub_zero]
  have e : HT.sIx xs.length xs.length (some (n : Int)) = min n xs.length := by
    show (if (n : Int) < 0 then ((n : Int) + (xs.length : Int)).toNat else min ((n : Int)).toNat xs.length) = min n xs.length
    rw [if_neg (by omega), Int.toNat_natCast]
  rw [e]
  exact List.take_eq_take_min.symm
theorem cut_lo {xs : List V} {n : Nat} : cutV xs (some (n : Int)) none = xs.drop n := by
  unfold cutV
  have e : HT.sIx xs.length 0 (some (n : Int)) = min n xs.length := by
    show (if (n : Int) < 0 then ((n : Int) + (xs.length : Int)).toNat else min ((n : Int)).toNat xs.length) = min n xs.length
    rw [if_neg (by omega), Int.toNat_natCast]
  rw [e, show HT.sIx xs.length xs.length none = xs.length from rfl]
  by_cases h : n ≤ xs.length
  · rw [Nat.min_eq_left h, List.take_of_length_le (by rw [List.length_drop]; exact Nat.le_refl _)]
  · rw [Nat.min_eq_right (by omega), Nat.sub_self, List.take_zero, List.drop_eq_nil_of_le (by omega)]
section
variable {K : PySem.W.Frag} {σ : L2.St} {H : Hp} {Q : VK} {L : List Cell} {a : Addr} {xs : List V} {n : Nat} {r : V → Option Int → Option Int → Hp → VK → Prop} {te t : TE} {tl th : TO} {i : Int} {QO : Option Int → Hp → Prop} {QI : Int → Prop}
theorem w_sl (h : te σ H fun x H1 => tl σ H1 fun l H2 => th σ H2 fun u H3 => r x l u H3 Q) : tSl r te tl th σ H Q := h
theorem w_part (h : t σ H fun x H1 => ∃ i, x = .int i ∧ QO (some i) H1) : tPart t σ H QO := h
theorem w_noPart (h : QO none H) : tNoPart σ H QO := h
theorem w_exI (h : QI i) : ∃ j, V.int i = .int j ∧ QI j := ⟨i, rfl, h⟩
theorem g_slHi (hh : Hd H L) (h : SqL K H a xs) (q : ∀ p H2, Hd H2 (lstC p (xs.take n) :: L) → Q (.ref p) H2) : rSlL K (.ref a) none (some (n : Int)) H Q :=
  ⟨a, xs, rfl, h, fun p hp => q p _ (hh.newL (cut_hi (xs := xs) (n := n) ▸ New.of hp))⟩
theorem g_slLo (hh : Hd H L) (h : SqL K H a xs) (q : ∀ p H2, Hd H2 (lstC p (xs.drop n) :: L) → Q (.ref p) H2) : rSlL K (.ref a) (some (n : Int)) none H Q :=
  ⟨a, xs, rfl, h, fun p hp => q p _ (hh.newL (cut_lo (xs := xs) (n := n) ▸ New.of hp))⟩
end
end
end K46
set_option Elab.async false
set_option linter.all false
set_option maxRecDepth 100000
set_option maxHeartbeats 4000000
namespace K46
open PySem PySem.Spec PyProof.Rows L2 Wk
local macro_rules | `(tactic| walk_at "u1") => `(tactic| fail "no more")
local macro_rules | `(tactic| walk_at "pos") => `(tactic| first | assumption | omega | decide | (simp only [Int.ofNat_eq_natCast] at *; omega))
local macro_rules | `(tactic| walk_at "sz") => `(tactic| first
  | (simp only [List.length_cons, List.length_nil]; decide)
  | exact Evl.sz_of (by omega)
  | exact Evl.sz_lt (by omega)
  | exact Evl.sz_of (by simp only [List.length_map, List.length_append, List.length_cons, List.length_nil, List.length_replicate]; omega)
  | exact Evl.sz_lt (by simp only [List.length_map, List.length_append, List.length_cons, List.length_nil, List.length_replicate]; omega))
local macro_rules | `(tactic| walk_at "cond") => `(tactic| first
  | exact Or.inr ⟨by decide, by decide⟩
  | (show (0 : Int) < _; first | decide | assumption | omega)
  | exact Or.inl ⟨by omega, by omega⟩
  | exact Or.inr ⟨by omega, by omega⟩
  | exact ⟨by decide, by decide, by decide⟩
  | exact log2_lt (by omega) (by omega)
  | exact ⟨by omega, by omega⟩)
local macro_rules | `(tactic| walk_at "ty") => `(tactic| first
  | exact ty_int | exact ty_bl | exact ty_str | exact ty_non
  | exact ty_L (by assumption) | exact ty_T (by assumption)
  | exact ty_L (SqL.of (by assumption)) | exact ty_T (SqT.of (by assumption)))
local macro_rules | `(tactic| walk_at "kit") => `(tactic| first
  | exact k_ii | exact k_ib | exact k_is | exact k_il | exact k_it
  | exact k_bb | exact k_bi | exact k_bs | exact k_bl | exact k_bt
  | exact k_ss | exact k_sb | exact k_si | exact k_sl | exact k_st
  | exact k_ll | exact k_lb | exact k_li | exact k_ls | exact k_lt
  | exact k_tt | exact k_tb | exact k_ti | exact k_ts | exact k_tl
  | exact k_nn | exact k_ni | exact k_ns | exact k_nl | exact k_nt)
local macro_rules | `(tactic| walk_at "s1") => `(tactic| first
  | with_reducible refine w_seq ?_
  | with_reducible refine w_set ?_
  | with_reducible refine w_op ?_
  | ((with_reducible refine' w_var ?h1 ?_); (case h1 => rfl))
  | with_reducible refine w_c ?_
  | with_reducible refine w_cb ?_
  | with_reducible refine w_cons ?_
  | with_reducible refine w_nil ?_
  | with_reducible refine w_I0 ?_
  | ((with_reducible refine' w_I ?c1 ?_); case c1 => walk_at "cond")
  | with_reducible refine w_ret ?_
  | with_reducible refine w_next ?_
  | with_reducible refine w_ifS ?_
  | with_reducible refine w_test ?_
  | with_reducible refine w_tB ?_
  | with_reducible refine w_k ?_
  | with_reducible refine w_eqI ?_
  | with_reducible refine w_neI ?_
  | with_reducible refine w_eqS ?_
  | with_reducible refine w_neS ?_
  | with_reducible refine w_and ?_
  | with_reducible refine w_or ?_
  | with_reducible refine w_not ?_
  | with_reducible refine w_andV ?_
  | with_reducible refine w_orV ?_
  | with_reducible refine w_notV ?_
  | with_reducible refine w_ifE ?_
  | with_reducible refine w_true ?_
  | with_reducible refine w_false ?_
  | with_reducible refine w_ntrue ?_
  | with_reducible refine w_nfalse ?_
  | with_reducible refine w_call ?_
  | with_reducible refine c_int ?_
  | with_reducible refine c_abs ?_
  | with_reducible refine c_max ?_
  | with_reducible refine c_min ?_
  | with_reducible refine w_drop ?_
  | with_reducible refine w_sfld ?_
  | with_reducible refine w_meth ?_
  | with_reducible refine w_make ?_
  | with_reducible refine w_prop ?_
  | with_reducible refine w_callK ?_
  | with_reducible refine w_callN ?_
  | with_reducible refine w_star ?_
  | with_reducible refine w_gcons ?_
  | with_reducible refine w_gname ?_
  | with_reducible refine w_gnil ?_
  | with_reducible refine w_retN ?_
  | with_reducible refine w_tup ?_
  | with_reducible refine w_lst ?_
  | with_reducible refine w_fld ?_
  | with_reducible refine w_bm ?_
  | with_reducible refine w_bm0 ?_
  | with_reducible refine w_forL ?_
  | with_reducible refine w_forT ?_
  | with_reducible refine w_forS ?_
  | with_reducible refine w_forR ?_
  | with_reducible refine w_lcR ?_
  | with_reducible refine w_lcL ?_
  | with_reducible refine w_lcT ?_
  | with_reducible refine w_isN ?_
  | with_reducible refine w_notN ?_
  | with_reducible refine w_asg ?_
  | with_reducible refine w_gsub ?_
  | ((with_reducible refine' w_aug ?h1 ?_); (case h1 => rfl))
  | with_reducible refine w_augS ?_
  | with_reducible refine w_ipI ?_
  | with_reducible refine w_un ?_
  | with_reducible refine w_U ?_
  | ((with_reducible refine' w_iteF ?f1 ?_); case f1 => (first | (intro h; cases h; done) | decide))
  | ((with_reducible refine' w_iteT ?f1 ?_); case f1 => rfl)
  | ((with_reducible refine' w_iteNF ?f1 ?_); case f1 => rfl)
  | ((with_reducible refine' w_iteNT ?f1 ?_); case f1 => (first | (intro h; cases h; done) | decide))
  | ((with_reducible refine' c_isi ?t1 ?k1 ?_); (case t1 => walk_at "ty"); (case k1 => walk_at "kit"))
  | ((with_reducible refine' w_eq ?e1 ?_); case e1 => rfl)
  | ((with_reducible refine' w_ne ?e1 ?_); case e1 => rfl)
  | walk_at "u1")
local macro_rules | `(tactic| walk_at "s") => `(tactic| repeat walk_at "s1")
local macro_rules | `(tactic| walk_at "mem") => `(tactic| first | with_reducible exact List.mem_cons_self .. | ((with_reducible refine' List.mem_cons_of_mem _ ?q); (case q => walk_at "mem")) | assumption | ((with_reducible refine' List.mem_append_right _ ?q); (case q => walk_at "mem")) | (exact List.mem_append_left _ (by assumption)))
local macro_rules | `(tactic| walk_at "pk") => `(tactic| first | with_reducible exact Pk.here | ((with_reducible refine' Pk.there ?q); (case q => walk_at "pk")) | ((with_reducible refine' Pk.app ?q); (case q => walk_at "pk")))
local macro_rules | `(tactic| walk_at "pkb") => `(tactic| first | with_reducible exact PkB.here | ((with_reducible refine' PkB.there ?q); (case q => walk_at "pkb")) | ((with_reducible refine' PkB.app ?q); (case q => walk_at "pkb")))
local macro_rules | `(tactic| walk_at "spl") => `(tactic| first | with_reducible exact Spl.nil | ((with_reducible refine' Spl.cons ?h ?t); (case h => walk_at "pk"); (case t => walk_at "spl")) | ((with_reducible refine' Spl.blk ?h ?t); (case h => walk_at "pkb"); (case t => walk_at "spl")))
local macro_rules | `(tactic| walk_at "sbx") => `(tactic| first | with_reducible exact Sb.refl | with_reducible exact Sb.nil | with_reducible exact Sb.left | ((with_reducible refine' Sb.cons ?h ?t); (case h => walk_at "pk"); (case t => walk_at "sbx")) | ((with_reducible refine' Sb.blk ?h ?t); (case h => walk_at "pkb"); (case t => walk_at "sbx")) | ((with_reducible refine' Sb.drop ?q); (case q => walk_at "sbx")) | ((with_reducible refine' Sb.right ?q); (case q => walk_at "sbx")))
local macro_rules | `(tactic| walk_at "hd") => `(tactic| first | assumption | exact Hd.sb (by assumption) (by walk_at "sbx"))
local macro_rules | `(tactic| walk_at "sq") => `(tactic| first
  | assumption
  | exact Hd.sqL (by assumption) (by walk_at "mem")
  | exact Hd.sqT (by assumption) (by walk_at "mem")
  | exact Hd.sqF (by assumption) (by walk_at "mem")
  | (refine .inl ?_; walk_at "sq")
  | (refine .inr ?_; walk_at "sq"))
local macro_rules | `(tactic| walk_at "at") => `(tactic| first | rfl | assumption | exact atI_nat (by assumption))
local macro_rules | `(tactic| walk_at "dn1") => `(tactic| first
  | exact Dn.int | exact Dn.str | exact Dn.non | exact Dn.bl | assumption
  | ((refine' Dn.tp ?a1 ?m1 ?l1 ?p1); (case a1 => assumption); (case m1 => walk_at "mem"); (case l1 => (simp only [List.length_cons, List.length_nil]; omega)); (case p1 => walk_at "dns"))
  | ((refine' Dn.lt ?a1 ?m1 ?l1 ?p1); (case a1 => assumption); (case m1 => walk_at "mem"); (case l1 => (simp only [List.length_cons, List.length_nil]; omega)); (case p1 => walk_at "dns")))
local macro_rules | `(tactic| walk_at "dns") => `(tactic| first | exact Paired.nil | exact Dn.ints | ((refine' Paired.cons ?a1 ?b1); (case a1 => walk_at "dn1"); (case b1 => walk_at "dns")))
local macro_rules | `(tactic| walk_at "g1") => `(tactic| first
  | ((with_reducible refine' g_ixI ?h1 ?h2 ?h3 ?_); (case h1 => assumption); (case h2 => walk_at "mem"); (case h3 => omega); intro z hz)
  | ((with_reducible refine' g_ixIT ?h1 ?h2 ?h3 ?_); (case h1 => assumption); (case h2 => walk_at "mem"); (case h3 => omega); intro z hz)
  | ((with_reducible refine' g_setI ?h1 ?h2 ?h3 ?_); (case h1 => assumption); (case h2 => walk_at "pk"); (case h3 => omega); intro H2 hh2)
  | ((with_reducible refine' w_ixL ?h1 ?h2 ?_); (case h1 => walk_at "sq"); (case h2 => walk_at "at"))
  | ((with_reducible refine' w_ixT ?h1 ?h2 ?_); (case h1 => walk_at "sq"); (case h2 => walk_at "at"))
  | ((with_reducible refine' w_ixAny ?h1 ?h2 ?_); (case h1 => walk_at "sq"); (case h2 => walk_at "at"))
  | ((with_reducible refine' c_lenA ?h1 ?_); (case h1 => walk_at "sq"))
  | ((with_reducible refine' c_isi ?t1 ?k1 ?_); (case t1 => first | exact ty_T (by walk_at "sq") | exact ty_L (by walk_at "sq")); (case k1 => walk_at "kit"))
  | ((with_reducible refine' g_lst ?h1 ?h2 ?_); (case h1 => assumption); (case h2 => walk_at "sz"); intro p H2 hh2)
  | ((with_reducible refine' g_tup ?h1 ?h2 ?_); (case h1 => assumption); (case h2 => walk_at "sz"); intro p H2 hh2)
  | ((with_reducible refine' g_dict ?h1 ?_); (case h1 => assumption); intro p H2 hh2)
  | ((with_reducible refine' g_listL ?h1 ?h2 ?_); (case h1 => assumption); (case h2 => walk_at "sq"); intro p H2 hh2)
  | ((with_reducible refine' g_listT ?h1 ?h2 ?_); (case h1 => assumption); (case h2 => walk_at "sq"); intro p H2 hh2)
  | ((with_reducible refine' g_tupL ?h1 ?h2 ?_); (case h1 => assumption); (case h2 => walk_at "sq"); intro p H2 hh2)
  | ((with_reducible refine' g_set ?h1 ?h2 ?h3 ?_); (case h1 => assumption); (case h2 => walk_at "pk"); (case h3 => first | rfl | assumption | exact Evl.ixN_nat (by first | omega | (simp only [List.length_cons, List.length_nil]; omega))); intro H2 hh2)
  | ((with_reducible refine' g_kbm ?h1 ?h2 ?_); (case h1 => assumption); (case h2 => walk_at "mem"))
  | ((with_reducible refine' g_kbm0 ?h1 ?h2 ?_); (case h1 => assumption); (case h2 => walk_at "mem"))
  | ((with_reducible refine' g_app ?h1 ?h2 ?h3 ?_); (case h1 => assumption); (case h2 => walk_at "pk"); (case h3 => walk_at "sz"); intro H2 hh2)
  | ((with_reducible refine' g_kapp ?h1 ?h2 ?h3 ?_); (case h1 => assumption); (case h2 => walk_at "pk"); (case h3 => walk_at "sz"); intro H2 hh2)
  | ((with_reducible refine' g_fld ?h1 ?h2 ?h3 ?h4 ?h5 ?_); (case h1 => assumption); (case h2 => walk_at "mem"); (case h3 => assumption); (case h4 => assumption); (case h5 => rfl))
  | ((with_reducible refine' g_sfld ?h1 ?h2 ?h3 ?h4 ?h5 ?_); (case h1 => assumption); (case h2 => walk_at "pk"); (case h3 => assumption); (case h4 => assumption); (case h5 => decide); intro H2 hh2)
  | ((with_reducible refine' g_meth ?h1 ?h2 ?h3 ?_); (case h1 => assumption); (case h2 => walk_at "mem"); (case h3 => rfl))
  | ((with_reducible refine' g_prop ?h1 ?h2 ?_); (case h1 => assumption); (case h2 => walk_at "mem"))
  | ((with_reducible refine' g_make ?h1 ?_); (case h1 => assumption); intro x H2 hh2)
  | ((with_reducible refine' g_cat ?h1 ?h2 ?h3 ?h4 ?_); (case h1 => assumption); (case h2 => walk_at "mem"); (case h3 => walk_at "mem"); (case h4 => walk_at "sz"); intro p H2 hh2)
  | ((with_reducible refine' g_inT ?h1 ?h2 ?h3 ?h4 ?h5 ?_); (case h1 => assumption); (case h2 => walk_at "mem"); (case h3 => rfl); (case h4 => rfl); (case h5 => rfl)))
local macro_rules | `(tactic| walk_at "gs") => `(tactic| repeat first | walk_at "s1" | walk_at "g1")
local macro_rules | `(tactic| walk_at "ite") => `(tactic| first
  | ((with_reducible refine' w_iteT ?h1 ?_); (case h1 => omega))
  | ((with_reducible refine' w_iteF ?h1 ?_); (case h1 => omega))
  | (with_reducible refine w_ite ?_ ?_ <;> intro hq)
  | ((with_reducible refine' w_iteNT ?h1 ?_); (case h1 => omega))
  | ((with_reducible refine' w_iteNF ?h1 ?_); (case h1 => omega))
  | (with_reducible refine w_iteN ?_ ?_ <;> intro hq))
local macro_rules | `(tactic| walk_at "go") => `(tactic| repeat' first | walk_at "s1" | walk_at "g1" | walk_at "ite")
local macro_rules | `(tactic| walk_at "g1") => `(tactic| first
  | ((with_reducible refine' g_take1 ?h1 ?h2 ?h3 ?h4 ?_); (case h1 => assumption); (case h2 => walk_at "spl"); (case h3 => omega); (case h4 => omega); intro k H2 hk1 hh2)
  | ((with_reducible refine' g_take ?h1 ?h2 ?h4 ?_); (case h1 => assumption); (case h2 => walk_at "spl"); (case h4 => omega); intro k H2 hk1 hh2)
  | ((with_reducible refine' g_betweenN ?h1 ?h2 ?h5 ?h3 ?h4 ?_); (case h1 => assumption); (case h2 => walk_at "spl"); (case h5 => omega); (case h3 => omega); (case h4 => omega); intro k H2 hk1 hk2 hh2)
  | ((with_reducible refine' g_between ?h1 ?h2 ?h3 ?h4 ?_); (case h1 => assumption); (case h2 => walk_at "spl"); (case h3 => omega); (case h4 => omega); intro k H2 hk1 hk2 hh2)
  | ((with_reducible refine' g_size ?h1 ?h2 ?h3 ?h4 ?_); (case h1 => assumption); (case h2 => walk_at "spl"); (case h3 => omega); (case h4 => omega); intro k H2 hk1 hh2)
  | ((with_reducible refine' g_word ?h1 ?h2 ?_); (case h1 => assumption); (case h2 => walk_at "spl"); intro k H2 hk1 hh2))
section
variable {P : Program} {w : World} {K : PySem.W.Frag} {mg : Str → Option Value} {base : Heap} {aREG aOPS : Addr}
def sp_lwords : Sp := fun vs H Q _ => ∃ (st c : Addr) (n : Nat) (R : List Cell), vs = [.ref st, .int n] ∧ n ≤ 1000 ∧ Hd H (stoC st c :: scrC c :: R) ∧
  ∀ (p : Addr) (ws : List Int) H', ws.length = n → (∀ x ∈ ws, (0 : Int) ≤ x ∧ x ≤ 65535) → Hd H' (lstC p (ws.map V.int) :: stoC st c :: scrC c :: R) → Q (.ref p) H'
theorem g_words {st c : Addr} {n : Nat} {H : Hp} {L R : List Cell} {Q : VK} {E : XK} (hh : Hd H L) (s : Spl L [stoC st c, scrC c] R) (hn : n ≤ 1000) (q : ∀ (p : Addr) (ws : List Int) H', ws.length = n → (∀ x ∈ ws, (0 : Int) ≤ x ∧ x ≤ 65535) → Hd H' (lstC p (ws.map V.int) :: stoC st c :: scrC c :: R) → Q (.ref p) H') : sp_lwords [.ref st, .int n] H Q E :=
  ⟨st, c, n, R, rfl, hn, hh.spl s, q⟩
theorem c_words_ (T : Txt K mg aREG aOPS) (d : DefAt K mg "_law_words" s__law_words) (c__law_take : C8.Cal P w K mg base 2 "_law_take" sp_take []) (c__law_word : C8.Cal P w K mg base 4 "_law_word" sp_word []) : C8.Cal P w K mg base 5 "_law_words" sp_lwords [] := by
  refine mk d sc__law_words (fun _ _ _ _ _ _ us hl => match us, hl with | [_, _], _ => rfl) (fun vs H Q E h => ?_) (fun f cdv A outer s H vs Q E hr h => ?_)
  · obtain ⟨st, c, n, R, rfl, _⟩ := h
    rfl
  · obtain ⟨st, c, n, R, rfl, hn, hh, q⟩ := h
    refine ⟨_, (pss_cons (ps_set (i := 2) sc__law_words.nd rfl (Or.inl rfl) (C8.pe_c c__law_take hr (by first | decide | omega) rfl (pa_cons (pv 0) (pa_cons pe_int pa_nil))))
  (pss_cons (ps_if (pt_cmpR op_eq (pv 2) pe_int (nomark _))
    (pss_one (ps_ret (pe_op op_rep (pe_lst (pa_cons pe_int pa_nil)) (pv 1))))
    pss_nil)
  (pss_cons (ps_if (pt_cmpR op_eq (pv 2) pe_int (nomark _))
    (pss_one (ps_ret (pe_op op_rep (pe_lst (pa_cons (C8.pe_c c__law_word hr (by first | decide | omega) rfl (pa_cons (pv 0) pa_nil)) pa_nil)) (pv 1))))
    pss_nil)
  (pss_one (ps_ret (pe_lc (own := [("k", 3)]) rfl sc__law_words.nd (pi_range1 rfl T.b_range (pa_cons (pv 1) pa_nil)) (blkOk_by (own := [("k", 3)]) (N := nm__law_words) (sc := defScope s__law_words) (by decide +kernel)) (fun _ _ _ _ _ => (pg_name (i := 3) sc__law_words.nd rfl (Or.inl rfl))) (fun _ _ _ _ _ => pts_nil) (fun _ _ _ _ _ => (C8.pe_c c__law_word hr (by first | decide | omega) rfl (pa_cons (pv 0) pa_nil))))))))), ?_⟩
    have en : ∀ k : Int, (List.replicate ((n : Int)).toNat [V.int k]).flatten = (List.replicate n k).map V.int := fun k => by rw [Int.toNat_natCast]; exact rep_ints n
    walk_at "go"
    · refine g_rep (by assumption) (by walk_at "mem") (by omega) (by omega) (by rw [Int.toNat_natCast]; exact Nat.le_trans (show 1 * n ≤ 1000 by omega) (by decide)) fun p H2 h2 => ?_
      rw [en] at h2
      exact q p (List.replicate n 0) H2 (List.length_replicate ..) (fun x hx => by rw [List.eq_of_mem_replicate hx]; omega) (by walk_at "hd")
    · rename_i k _ _ _ _ _ _
      refine g_rep (by assumption) (by walk_at "mem") (by omega) (by omega) (by rw [Int.toNat_natCast]; exact Nat.le_trans (show 1 * n ≤ 1000 by omega) (by decide)) fun p H2 h2 => ?_
      rw [en] at h2
      exact q p (List.replicate n k) H2 (List.length_replicate ..) (fun x hx => by rw [List.eq_of_mem_replicate hx]; omega) (by walk_at "hd")
    · refine g_lcR (by assumption) rfl (by omega) (fun i D H => ∃ ws : List Int, ws.length = i ∧ (∀ x ∈ ws, (0 : Int) ≤ x ∧ x ≤ 65535) ∧ Hd H (lstC D (ws.map V.int) :: stoC st c :: scrC c :: R)) (fun D H1 h1 => ⟨[], rfl, by simp, h1⟩) ?_ ?_
      · rintro i D H2 hi ⟨ws, hl, hw, h2⟩
        walk_at "go"
        rename_i k _ _ _ _ _
        refine ⟨ws ++ [(k : Int)], by simp [hl], fun x hx => ?_, by rw [List.map_append]; walk_at "hd"⟩
        rcases List.mem_append.mp hx with z | z
        · exact hw x z
        · rw [List.mem_singleton.mp z]; omega
      · rintro D H2 ⟨ws, hl, hw, h2⟩
        exact q D ws H2 hl hw h2
end
end K46
set_option Elab.async false
set_option linter.all false
set_option maxRecDepth 100000
set_option maxHeartbeats 4000000
namespace K46
open PySem PySem.Spec PyProof.Rows L2 Wk
local macro_rules | `(tactic| walk_at "u1") => `(tactic| fail "no more")
local macro_rules | `(tactic| walk_at "pos") => `(tactic| first | assumption | omega | decide | (simp only [Int.ofNat_eq_natCast] at *; omega))
local macro_rules | `(tactic| walk_at "sz") => `(tactic| first
  | (simp only [List.length_cons, List.length_nil]; decide)
  | exact Evl.sz_of (by omega)
  | exact Evl.sz_lt (by omega)
  | exact Evl.sz_of (by simp only [List.length_map, List.length_append, List.length_cons, List.length_nil, List.length_replicate]; omega)
  | exact Evl.sz_lt (by simp only [List.length_map, List.length_append, List.length_cons, List.length_nil, List.length_replicate]; omega))
local macro_rules | `(tactic| walk_at "cond") => `(tactic| first
  | exact Or.inr ⟨by decide, by decide⟩
  | (show (0 : Int) < _; first | decide | assumption | omega)
  | exact Or.inl ⟨by omega, by omega⟩
  | exact Or.inr ⟨by omega, by omega⟩
  | exact ⟨by decide, by decide, by decide⟩
  | exact log2_lt (by omega) (by omega)
  | exact ⟨by omega, by omega⟩)
local macro_rules | `(tactic| walk_at "ty") => `(tactic| first
  | exact ty_int | exact ty_bl | exact ty_str | exact ty_non
  | exact ty_L (by assumption) | exact ty_T (by assumption)
  | exact ty_L (SqL.of (by assumption)) | exact ty_T (SqT.of (by assumption)))
local macro_rules | `(tactic| walk_at "kit") => `(tactic| first
  | exact k_ii | exact k_ib | exact k_is | exact k_il | exact k_it
  | exact k_bb | exact k_bi | exact k_bs | exact k_bl | exact k_bt
  | exact k_ss | exact k_sb | exact k_si | exact k_sl | exact k_st
  | exact k_ll | exact k_lb | exact k_li | exact k_ls | exact k_lt
  | exact k_tt | exact k_tb | exact k_ti | exact k_ts | exact k_tl
  | exact k_nn | exact k_ni | exact k_ns | exact k_nl | exact k_nt)
local macro_rules | `(tactic| walk_at "s1") => `(tactic| first
  | with_reducible refine w_seq ?_
  | with_reducible refine w_set ?_
  | with_reducible refine w_op ?_
  | ((with_reducible refine' w_var ?h1 ?_); (case h1 => rfl))
  | with_reducible refine w_c ?_
  | with_reducible refine w_cb ?_
  | with_reducible refine w_cons ?_
  | with_reducible refine w_nil ?_
  | with_reducible refine w_I0 ?_
  | ((with_reducible refine' w_I ?c1 ?_); case c1 => walk_at "cond")
  | with_reducible refine w_ret ?_
  | with_reducible refine w_next ?_
  | with_reducible refine w_ifS ?_
  | with_reducible refine w_test ?_
  | with_reducible refine w_tB ?_
  | with_reducible refine w_k ?_
  | with_reducible refine w_eqI ?_
  | with_reducible refine w_neI ?_
  | with_reducible refine w_eqS ?_
  | with_reducible refine w_neS ?_
  | with_reducible refine w_and ?_
  | with_reducible refine w_or ?_
  | with_reducible refine w_not ?_
  | with_reducible refine w_andV ?_
  | with_reducible refine w_orV ?_
  | with_reducible refine w_notV ?_
  | with_reducible refine w_ifE ?_
  | with_reducible refine w_true ?_
  | with_reducible refine w_false ?_
  | with_reducible refine w_ntrue ?_
  | with_reducible refine w_nfalse ?_
  | with_reducible refine w_call ?_
  | with_reducible refine c_int ?_
  | with_reducible refine c_abs ?_
  | with_reducible refine c_max ?_
  | with_reducible refine c_min ?_
  | with_reducible refine w_drop ?_
  | with_reducible refine w_sfld ?_
  | with_reducible refine w_meth ?_
  | with_reducible refine w_make ?_
  | with_reducible refine w_prop ?_
  | with_reducible refine w_callK ?_
  | with_reducible refine w_callN ?_
  | with_reducible refine w_star ?_
  | with_reducible refine w_gcons ?_
  | with_reducible refine w_gname ?_
  | with_reducible refine w_gnil ?_
  | with_reducible refine w_retN ?_
  | with_reducible refine w_tup ?_
  | with_reducible refine w_lst ?_
  | with_reducible refine w_fld ?_
  | with_reducible refine w_bm ?_
  | with_reducible refine w_bm0 ?_
  | with_reducible refine w_forL ?_
  | with_reducible refine w_forT ?_
  | with_reducible refine w_forS ?_
  | with_reducible refine w_forR ?_
  | with_reducible refine w_lcR ?_
  | with_reducible refine w_lcL ?_
  | with_reducible refine w_lcT ?_
  | with_reducible refine w_isN ?_
  | with_reducible refine w_notN ?_
  | with_reducible refine w_asg ?_
  | with_reducible refine w_gsub ?_
  | ((with_reducible refine' w_aug ?h1 ?_); (case h1 => rfl))
  | with_reducible refine w_augS ?_
  | with_reducible refine w_ipI ?_
  | with_reducible refine w_un ?_
  | with_reducible refine w_U ?_
  | ((with_reducible refine' w_iteF ?f1 ?_); case f1 => (first | (intro h; cases h; done) | decide))
  | ((with_reducible refine' w_iteT ?f1 ?_); case f1 => rfl)
  | ((with_reducible refine' w_iteNF ?f1 ?_); case f1 => rfl)
  | ((with_reducible refine' w_iteNT ?f1 ?_); case f1 => (first | (intro h; cases h; done) | decide))
  | ((with_reducible refine' c_isi ?t1 ?k1 ?_); (case t1 => walk_at "ty"); (case k1 => walk_at "kit"))
  | ((with_reducible refine' w_eq ?e1 ?_); case e1 => rfl)
  | ((with_reducible refine' w_ne ?e1 ?_); case e1 => rfl)
  | walk_at "u1")
local macro_rules | `(tactic| walk_at "s") => `(tactic| repeat walk_at "s1")
local macro_rules | `(tactic| walk_at "mem") => `(tactic| first | with_reducible exact List.mem_cons_self .. | ((with_reducible refine' List.mem_cons_of_mem _ ?q); (case q => walk_at "mem")) | assumption | ((with_reducible refine' List.mem_append_right _ ?q); (case q => walk_at "mem")) | (exact List.mem_append_left _ (by assumption)))
local macro_rules | `(tactic| walk_at "pk") => `(tactic| first | with_reducible exact Pk.here | ((with_reducible refine' Pk.there ?q); (case q => walk_at "pk")) | ((with_reducible refine' Pk.app ?q); (case q => walk_at "pk")))
local macro_rules | `(tactic| walk_at "pkb") => `(tactic| first | with_reducible exact PkB.here | ((with_reducible refine' PkB.there ?q); (case q => walk_at "pkb")) | ((with_reducible refine' PkB.app ?q); (case q => walk_at "pkb")))
local macro_rules | `(tactic| walk_at "spl") => `(tactic| first | with_reducible exact Spl.nil | ((with_reducible refine' Spl.cons ?h ?t); (case h => walk_at "pk"); (case t => walk_at "spl")) | ((with_reducible refine' Spl.blk ?h ?t); (case h => walk_at "pkb"); (case t => walk_at "spl")))
local macro_rules | `(tactic| walk_at "sbx") => `(tactic| first | with_reducible exact Sb.refl | with_reducible exact Sb.nil | with_reducible exact Sb.left | ((with_reducible refine' Sb.cons ?h ?t); (case h => walk_at "pk"); (case t => walk_at "sbx")) | ((with_reducible refine' Sb.blk ?h ?t); (case h => walk_at "pkb"); (case t => walk_at "sbx")) | ((with_reducible refine' Sb.drop ?q); (case q => walk_at "sbx")) | ((with_reducible refine' Sb.right ?q); (case q => walk_at "sbx")))
local macro_rules | `(tactic| walk_at "hd") => `(tactic| first | assumption | exact Hd.sb (by assumption) (by walk_at "sbx"))
local macro_rules | `(tactic| walk_at "sq") => `(tactic| first
  | assumption
  | exact Hd.sqL (by assumption) (by walk_at "mem")
  | exact Hd.sqT (by assumption) (by walk_at "mem")
  | exact Hd.sqF (by assumption) (by walk_at "mem")
  | (refine .inl ?_; walk_at "sq")
  | (refine .inr ?_; walk_at "sq"))
local macro_rules | `(tactic| walk_at "at") => `(tactic| first | rfl | assumption | exact atI_nat (by assumption))
local macro_rules | `(tactic| walk_at "dn1") => `(tactic| first
  | exact Dn.int | exact Dn.str | exact Dn.non | exact Dn.bl | assumption
  | ((refine' Dn.tp ?a1 ?m1 ?l1 ?p1); (case a1 => assumption); (case m1 => walk_at "mem"); (case l1 => (simp only [List.length_cons, List.length_nil]; omega)); (case p1 => walk_at "dns"))
  | ((refine' Dn.lt ?a1 ?m1 ?l1 ?p1); (case a1 => assumption); (case m1 => walk_at "mem"); (case l1 => (simp only [List.length_cons, List.length_nil]; omega)); (case p1 => walk_at "dns")))
local macro_rules | `(tactic| walk_at "dns") => `(tactic| first | exact Paired.nil | exact Dn.ints | ((refine' Paired.cons ?a1 ?b1); (case a1 => walk_at "dn1"); (case b1 => walk_at "dns")))
local macro_rules | `(tactic| walk_at "g1") => `(tactic| first
  | ((with_reducible refine' g_ixI ?h1 ?h2 ?h3 ?_); (case h1 => assumption); (case h2 => walk_at "mem"); (case h3 => omega); intro z hz)
  | ((with_reducible refine' g_ixIT ?h1 ?h2 ?h3 ?_); (case h1 => assumption); (case h2 => walk_at "mem"); (case h3 => omega); intro z hz)
  | ((with_reducible refine' g_setI ?h1 ?h2 ?h3 ?_); (case h1 => assumption); (case h2 => walk_at "pk"); (case h3 => omega); intro H2 hh2)
  | ((with_reducible refine' w_ixL ?h1 ?h2 ?_); (case h1 => walk_at "sq"); (case h2 => walk_at "at"))
  | ((with_reducible refine' w_ixT ?h1 ?h2 ?_); (case h1 => walk_at "sq"); (case h2 => walk_at "at"))
  | ((with_reducible refine' w_ixAny ?h1 ?h2 ?_); (case h1 => walk_at "sq"); (case h2 => walk_at "at"))
  | ((with_reducible refine' c_lenA ?h1 ?_); (case h1 => walk_at "sq"))
  | ((with_reducible refine' c_isi ?t1 ?k1 ?_); (case t1 => first | exact ty_T (by walk_at "sq") | exact ty_L (by walk_at "sq")); (case k1 => walk_at "kit"))
  | ((with_reducible refine' g_lst ?h1 ?h2 ?_); (case h1 => assumption); (case h2 => walk_at "sz"); intro p H2 hh2)
  | ((with_reducible refine' g_tup ?h1 ?h2 ?_); (case h1 => assumption); (case h2 => walk_at "sz"); intro p H2 hh2)
  | ((with_reducible refine' g_dict ?h1 ?_); (case h1 => assumption); intro p H2 hh2)
  | ((with_reducible refine' g_listL ?h1 ?h2 ?_); (case h1 => assumption); (case h2 => walk_at "sq"); intro p H2 hh2)
  | ((with_reducible refine' g_listT ?h1 ?h2 ?_); (case h1 => assumption); (case h2 => walk_at "sq"); intro p H2 hh2)
  | ((with_reducible refine' g_tupL ?h1 ?h2 ?_); (case h1 => assumption); (case h2 => walk_at "sq"); intro p H2 hh2)
  | ((with_reducible refine' g_set ?h1 ?h2 ?h3 ?_); (case h1 => assumption); (case h2 => walk_at "pk"); (case h3 => first | rfl | assumption | exact Evl.ixN_nat (by first | omega | (simp only [List.length_cons, List.length_nil]; omega))); intro H2 hh2)
  | ((with_reducible refine' g_kbm ?h1 ?h2 ?_); (case h1 => assumption); (case h2 => walk_at "mem"))
  | ((with_reducible refine' g_kbm0 ?h1 ?h2 ?_); (case h1 => assumption); (case h2 => walk_at "mem"))
  | ((with_reducible refine' g_app ?h1 ?h2 ?h3 ?_); (case h1 => assumption); (case h2 => walk_at "pk"); (case h3 => walk_at "sz"); intro H2 hh2)
  | ((with_reducible refine' g_kapp ?h1 ?h2 ?h3 ?_); (case h1 => assumption); (case h2 => walk_at "pk"); (case h3 => walk_at "sz"); intro H2 hh2)
  | ((with_reducible refine' g_fld ?h1 ?h2 ?h3 ?h4 ?h5 ?_); (case h1 => assumption); (case h2 => walk_at "mem"); (case h3 => assumption); (case h4 => assumption); (case h5 => rfl))
  | ((with_reducible refine' g_sfld ?h1 ?h2 ?h3 ?h4 ?h5 ?_); (case h1 => assumption); (case h2 => walk_at "pk"); (case h3 => assumption); (case h4 => assumption); (case h5 => decide); intro H2 hh2)
  | ((with_reducible refine' g_meth ?h1 ?h2 ?h3 ?_); (case h1 => assumption); (case h2 => walk_at "mem"); (case h3 => rfl))
  | ((with_reducible refine' g_prop ?h1 ?h2 ?_); (case h1 => assumption); (case h2 => walk_at "mem"))
  | ((with_reducible refine' g_make ?h1 ?_); (case h1 => assumption); intro x H2 hh2)
  | ((with_reducible refine' g_cat ?h1 ?h2 ?h3 ?h4 ?_); (case h1 => assumption); (case h2 => walk_at "mem"); (case h3 => walk_at "mem"); (case h4 => walk_at "sz"); intro p H2 hh2)
  | ((with_reducible refine' g_inT ?h1 ?h2 ?h3 ?h4 ?h5 ?_); (case h1 => assumption); (case h2 => walk_at "mem"); (case h3 => rfl); (case h4 => rfl); (case h5 => rfl)))
local macro_rules | `(tactic| walk_at "gs") => `(tactic| repeat first | walk_at "s1" | walk_at "g1")
local macro_rules | `(tactic| walk_at "ite") => `(tactic| first
  | ((with_reducible refine' w_iteT ?h1 ?_); (case h1 => omega))
  | ((with_reducible refine' w_iteF ?h1 ?_); (case h1 => omega))
  | (with_reducible refine w_ite ?_ ?_ <;> intro hq)
  | ((with_reducible refine' w_iteNT ?h1 ?_); (case h1 => omega))
  | ((with_reducible refine' w_iteNF ?h1 ?_); (case h1 => omega))
  | (with_reducible refine w_iteN ?_ ?_ <;> intro hq))
local macro_rules | `(tactic| walk_at "go") => `(tactic| repeat' first | walk_at "s1" | walk_at "g1" | walk_at "ite")
local macro_rules | `(tactic| walk_at "g1") => `(tactic| first
  | ((with_reducible refine' g_take1 ?h1 ?h2 ?h3 ?h4 ?_); (case h1 => assumption); (case h2 => walk_at "spl"); (case h3 => omega); (case h4 => omega); intro k H2 hk1 hh2)
  | ((with_reducible refine' g_take ?h1 ?h2 ?h4 ?_); (case h1 => assumption); (case h2 => walk_at "spl"); (case h4 => omega); intro k H2 hk1 hh2)
  | ((with_reducible refine' g_betweenN ?h1 ?h2 ?h5 ?h3 ?h4 ?_); (case h1 => assumption); (case h2 => walk_at "spl"); (case h5 => omega); (case h3 => omega); (case h4 => omega); intro k H2 hk1 hk2 hh2)
  | ((with_reducible refine' g_between ?h1 ?h2 ?h3 ?h4 ?_); (case h1 => assumption); (case h2 => walk_at "spl"); (case h3 => omega); (case h4 => omega); intro k H2 hk1 hk2 hh2)
  | ((with_reducible refine' g_size ?h1 ?h2 ?h3 ?h4 ?_); (case h1 => assumption); (case h2 => walk_at "spl"); (case h3 => omega); (case h4 => omega); intro k H2 hk1 hh2)
  | ((with_reducible refine' g_word ?h1 ?h2 ?_); (case h1 => assumption); (case h2 => walk_at "spl"); intro k H2 hk1 hh2))
section
variable {P : Program} {w : World} {K : PySem.W.Frag} {mg : Str → Option Value} {base : Heap} {aREG aOPS : Addr}
/-! ### a list is copied: the new list itself -/
def sp_copyL (K : PySem.W.Frag) (m : Nat) : Sp := fun vs H Q _ => ∃ (a : Addr) (xs : List V) (ds : List PyData), vs = [.ref a] ∧ SqL K H a xs ∧ xs.length ≤ 100000 ∧ Paired (Dn K [] H m) xs ds ∧
  ∀ D acc H', H D = none → H' D = some (.lst acc) → Upt [] H H' → (∀ S, Trk S H → Paired (Dn K (D :: S) H' m) acc ds) → Q (.ref D) H'
theorem c_copyL (m : Nat) (T : Txt K mg aREG aOPS) (d : DefAt K mg "_law_copy" s__law_copy) (c__law_copy : C8.Cal P w K mg base (m + 1) "_law_copy" (sp_copy K (m + 1)) []) : C8.Cal P w K mg base (m + 2) "_law_copy" (sp_copyL K m) [] := by
  refine mk d sc__law_copy (fun _ _ _ _ _ _ us hl => match us, hl with | [_], _ => rfl) (fun vs H Q E h => ?_) (fun f cdv A outer s H vs Q E hr h => ?_)
  · obtain ⟨a, xs, ds, rfl, _⟩ := h
    rfl
  · obtain ⟨a, xs, ds, rfl, hx, hl, p, k⟩ := h
    refine ⟨_, (pss_cons (ps_if (pt_val (pe_callB call_isi (by rfl) T.b_isinstance (by decide +kernel) (pa_cons (pv 0) (pa_cons (pe_bltn (v := .ty "list") (by rfl) T.b_list (by decide +kernel) rfl) pa_nil))))
    (pss_one (ps_ret (pe_lc (own := [("x", 1)]) rfl sc__law_copy.nd (pi_list (pv 0)) (blkOk_by (own := [("x", 1)]) (N := nm__law_copy) (sc := defScope s__law_copy) (by decide +kernel)) (fun _ _ _ _ _ => (pg_name (i := 1) sc__law_copy.nd rfl (Or.inl rfl))) (fun _ _ _ _ _ => pts_nil) (fun _ _ _ _ _ => (C8.pe_c c__law_copy hr (by first | decide | omega) rfl (pa_cons (pv 1) pa_nil))))))
    pss_nil)
  (pss_cons (ps_if (pt_val (pe_callB call_isi (by rfl) T.b_isinstance (by decide +kernel) (pa_cons (pv 0) (pa_cons (pe_bltn (v := .ty "tuple") (by rfl) T.b_tuple (by decide +kernel) rfl) pa_nil))))
    (pss_one (ps_ret (pe_callTy Wk.b_tuple (by rfl) T.b_tuple (by decide +kernel) (pa_cons (pe_lc (own := [("x", 1)]) rfl sc__law_copy.nd (pi_tup (pv 0)) (blkOk_by (own := [("x", 1)]) (N := nm__law_copy) (sc := defScope s__law_copy) (by decide +kernel)) (fun _ _ _ _ _ => (pg_name (i := 1) sc__law_copy.nd rfl (Or.inl rfl))) (fun _ _ _ _ _ => pts_nil) (fun _ _ _ _ _ => (C8.pe_c c__law_copy hr (by first | decide | omega) rfl (pa_cons (pv 1) pa_nil)))) pa_nil))))
    pss_nil)
  (pss_one (ps_ret (pv 0))))), ?_⟩
    have el := p.length
    walk_at "s"
    refine lc_L hx (fun i D H2 => H D = none ∧ Upt [] H H2 ∧ ∃ acc, H2 D = some (.lst acc) ∧ acc.length = i ∧ ∀ S, Trk S H → Paired (Dn K (D :: S) H2 m) acc (ds.take i)) (fun D H1 n1 => ⟨n1.no, n1.keep, [], n1.at_, rfl, fun _ _ => .nil⟩) (fun i D H2 _ ⟨_, u, _⟩ => hx.upt u) (fun i x D H2 hi hp => ?_) (fun D H2 hp => ?_)
    · obtain ⟨hD, u, acc, hacc, hn, hp⟩ := hp
      obtain ⟨d0, hd0, z⟩ := paired_at p hi
      have hil := (List.getElem?_eq_some_iff.mp hi).1
      walk_at "s"
      refine ⟨x, d0, rfl, Dn.upt u (by simp) z, fun v' H4 u4 h4 => ?_⟩
      refine w_kapp (u4.at0 hacc) (Evl.sz_lt (by omega)) fun H5 g5 => ⟨hD, fun b o _ ho => ?_, acc ++ [v'], g5.at_, by simp [hn], fun S hS => ?_⟩
      · exact g5.keep.at1 (fun z => by subst z; rw [hD] at ho; cases ho) (u4.at0 (u.at0 ho))
      · rw [take_succ' hd0]
        have u5 : Upt [D] H4 H5 := g5.keep
        refine Paired.snoc (Paired.mapP (hp S hS) fun x y q => Dn.upt u5 (by simp) (Dn.upt u4 (by simp) q)) ?_
        refine Dn.upt u5 (by simp) (h4 (D :: S) fun b hb => ?_)
        rcases List.mem_cons.mp hb with z | z
        · subst z; exact ⟨_, hacc⟩
        · exact hS.upt u b z
    · obtain ⟨hD, u, acc, hacc, hn, hpp⟩ := hp
      refine k D acc H2 hD hacc u fun S hS => ?_
      have q := hpp S hS
      rwa [el, List.take_length] at q
theorem paired_chunk {m : Nat} {S : List Addr} {H : Hp} {xs : List V} {ds : List PyData} (p : Paired (Dn K S H m) xs ds) : ∃ Z : List Cell, Hd H Z ∧ (∀ c ∈ Z, c.1 ∉ S) ∧ ∀ H, Hd H Z → Paired (Dn K [] H m) xs ds := by
  obtain ⟨A, h1, h2⟩ := paired_addr (fun v d => Dn.addr) p
  obtain ⟨B, h3, h4⟩ := same_nodup A
  refine ⟨B.map fun a => (a, fun o => H a = some o), ⟨?_, fun c hc => ?_⟩, fun c hc => ?_, fun H' hh => h2 H' fun b hb o ho => ?_⟩
  · rw [List.map_map]
    exact (List.map_id B).symm ▸ h3
  · obtain ⟨a, ha, rfl⟩ := List.mem_map.mp hc
    obtain ⟨o, ho⟩ := (h1 a ((h4 a).mpr ha)).2
    exact ⟨o, ho, ho⟩
  · obtain ⟨a, ha, rfl⟩ := List.mem_map.mp hc
    exact (h1 a ((h4 a).mpr ha)).1
  · obtain ⟨u, e1, e2⟩ := hh.at_ _ (List.mem_map.mpr ⟨b, (h4 b).mp hb, rfl⟩)
    have e3 : H b = some u := e2
    rw [ho] at e3
    cases e3
    exact e1
theorem g_copyL {m : Nat} {a : Addr} {xs : List V} {ds : List PyData} {H : Hp} {L : List Cell} {Q : VK} {E : XK} (hh : Hd H L) (h : SqL K H a xs) (hl : xs.length ≤ 100000) (p : Paired (Dn K [] H m) xs ds)
    (q : ∀ D acc Z H', (∀ H, Hd H Z → Paired (Dn K [] H m) acc ds) → Hd H' (lstC D acc :: (Z ++ L)) → Q (.ref D) H') : sp_copyL K m [.ref a] H Q E :=
  ⟨a, xs, ds, rfl, h, hl, p, fun D acc H' n0 e u hd => by
    obtain ⟨Z, hz, hs, zz⟩ := paired_chunk (hd (L.map Prod.fst) (fun b hb => by
      obtain ⟨c, hc, rfl⟩ := List.mem_map.mp hb
      obtain ⟨o, ho, _⟩ := hh.at_ c hc
      exact ⟨o, ho⟩))
    have h1 := Hd.join hz (hh.upt0 u) fun c hc => fun z => hs c hc (List.mem_cons_of_mem _ z)
    exact q D acc Z H' zz (hd_cons1 (c := lstC D acc) h1 e rfl fun d hd z => by
      rcases List.mem_append.mp hd with hd | hd
      · exact hs d hd (by rw [show d.1 = D from z]; exact List.mem_cons_self ..)
      · obtain ⟨o, ho, _⟩ := hh.at_ d hd
        rw [show d.1 = D from z, n0] at ho
        cases ho)⟩
end
end K46
set_option Elab.async false
set_option linter.all false
set_option maxRecDepth 100000
set_option maxHeartbeats 4000000
namespace K46
open PySem PySem.Spec PyProof.Rows L2 Wk
local macro_rules | `(tactic| walk_at "u1") => `(tactic| fail "no more")
local macro_rules | `(tactic| walk_at "pos") => `(tactic| first | assumption | omega | decide | (simp only [Int.ofNat_eq_natCast] at *; omega))
local macro_rules | `(tactic| walk_at "sz") => `(tactic| first
  | (simp only [List.length_cons, List.length_nil]; decide)
  | exact Evl.sz_of (by omega)
  | exact Evl.sz_lt (by omega)
  | exact Evl.sz_of (by simp only [List.length_map, List.length_append, List.length_cons, List.length_nil, List.length_replicate]; omega)
  | exact Evl.sz_lt (by simp only [List.length_map, List.length_append, List.length_cons, List.length_nil, List.length_replicate]; omega))
local macro_rules | `(tactic| walk_at "cond") => `(tactic| first
  | exact Or.inr ⟨by decide, by decide⟩
  | (show (0 : Int) < _; first | decide | assumption | omega)
  | exact Or.inl ⟨by omega, by omega⟩
  | exact Or.inr ⟨by omega, by omega⟩
  | exact ⟨by decide, by decide, by decide⟩
  | exact log2_lt (by omega) (by omega)
  | exact ⟨by omega, by omega⟩)
local macro_rules | `(tactic| walk_at "ty") => `(tactic| first
  | exact ty_int | exact ty_bl | exact ty_str | exact ty_non
  | exact ty_L (by assumption) | exact ty_T (by assumption)
  | exact ty_L (SqL.of (by assumption)) | exact ty_T (SqT.of (by assumption)))
local macro_rules | `(tactic| walk_at "kit") => `(tactic| first
  | exact k_ii | exact k_ib | exact k_is | exact k_il | exact k_it
  | exact k_bb | exact k_bi | exact k_bs | exact k_bl | exact k_bt
  | exact k_ss | exact k_sb | exact k_si | exact k_sl | exact k_st
  | exact k_ll | exact k_lb | exact k_li | exact k_ls | exact k_lt
  | exact k_tt | exact k_tb | exact k_ti | exact k_ts | exact k_tl
  | exact k_nn | exact k_ni | exact k_ns | exact k_nl | exact k_nt)
local macro_rules | `(tactic| walk_at "s1") => `(tactic| first
  | with_reducible refine w_seq ?_
  | with_reducible refine w_set ?_
  | with_reducible refine w_op ?_
  | ((with_reducible refine' w_var ?h1 ?_); (case h1 => rfl))
  | with_reducible refine w_c ?_
  | with_reducible refine w_cb ?_
  | with_reducible refine w_cons ?_
  | with_reducible refine w_nil ?_
  | with_reducible refine w_I0 ?_
  | ((with_reducible refine' w_I ?c1 ?_); case c1 => walk_at "cond")
  | with_reducible refine w_ret ?_
  | with_reducible refine w_next ?_
  | with_reducible refine w_ifS ?_
  | with_reducible refine w_test ?_
  | with_reducible refine w_tB ?_
  | with_reducible refine w_k ?_
  | with_reducible refine w_eqI ?_
  | with_reducible refine w_neI ?_
  | with_reducible refine w_eqS ?_
  | with_reducible refine w_neS ?_
  | with_reducible refine w_and ?_
  | with_reducible refine w_or ?_
  | with_reducible refine w_not ?_
  | with_reducible refine w_andV ?_
  | with_reducible refine w_orV ?_
  | with_reducible refine w_notV ?_
  | with_reducible refine w_ifE ?_
  | with_reducible refine w_true ?_
  | with_reducible refine w_false ?_
  | with_reducible refine w_ntrue ?_
  | with_reducible refine w_nfalse ?_
  | with_reducible refine w_call ?_
  | with_reducible refine c_int ?_
  | with_reducible refine c_abs ?_
  | with_reducible refine c_max ?_
  | with_reducible refine c_min ?_
  | with_reducible refine w_drop ?_
  | with_reducible refine w_sfld ?_
  | with_reducible refine w_meth ?_
  | with_reducible refine w_make ?_
  | with_reducible refine w_prop ?_
  | with_reducible refine w_callK ?_
  | with_reducible refine w_callN ?_
  | with_reducible refine w_star ?_
  | with_reducible refine w_gcons ?_
  | with_reducible refine w_gname ?_
  | with_reducible refine w_gnil ?_
  | with_reducible refine w_retN ?_
  | with_reducible refine w_tup ?_
  | with_reducible refine w_lst ?_
  | with_reducible refine w_fld ?_
  | with_reducible refine w_bm ?_
  | with_reducible refine w_bm0 ?_
  | with_reducible refine w_forL ?_
  | with_reducible refine w_forT ?_
  | with_reducible refine w_forS ?_
  | with_reducible refine w_forR ?_
  | with_reducible refine w_lcR ?_
  | with_reducible refine w_lcL ?_
  | with_reducible refine w_lcT ?_
  | with_reducible refine w_isN ?_
  | with_reducible refine w_notN ?_
  | with_reducible refine w_asg ?_
  | with_reducible refine w_gsub ?_
  | ((with_reducible refine' w_aug ?h1 ?_); (case h1 => rfl))
  | with_reducible refine w_augS ?_
  | with_reducible refine w_ipI ?_
  | with_reducible refine w_un ?_
  | with_reducible refine w_U ?_
  | ((with_reducible refine' w_iteF ?f1 ?_); case f1 => (first | (intro h; cases h; done) | decide))
  | ((with_reducible refine' w_iteT ?f1 ?_); case f1 => rfl)
  | ((with_reducible refine' w_iteNF ?f1 ?_); case f1 => rfl)
  | ((with_reducible refine' w_iteNT ?f1 ?_); case f1 => (first | (intro h; cases h; done) | decide))
  | ((with_reducible refine' c_isi ?t1 ?k1 ?_); (case t1 => walk_at "ty"); (case k1 => walk_at "kit"))
  | ((with_reducible refine' w_eq ?e1 ?_); case e1 => rfl)
  | ((with_reducible refine' w_ne ?e1 ?_); case e1 => rfl)
  | walk_at "u1")
local macro_rules | `(tactic| walk_at "s") => `(tactic| repeat walk_at "s1")
local macro_rules | `(tactic| walk_at "mem") => `(tactic| first | with_reducible exact List.mem_cons_self .. | ((with_reducible refine' List.mem_cons_of_mem _ ?q); (case q => walk_at "mem")) | assumption | ((with_reducible refine' List.mem_append_right _ ?q); (case q => walk_at "mem")) | (exact List.mem_append_left _ (by assumption)))
local macro_rules | `(tactic| walk_at "pk") => `(tactic| first | with_reducible exact Pk.here | ((with_reducible refine' Pk.there ?q); (case q => walk_at "pk")) | ((with_reducible refine' Pk.app ?q); (case q => walk_at "pk")))
local macro_rules | `(tactic| walk_at "pkb") => `(tactic| first | with_reducible exact PkB.here | ((with_reducible refine' PkB.there ?q); (case q => walk_at "pkb")) | ((with_reducible refine' PkB.app ?q); (case q => walk_at "pkb")))
local macro_rules | `(tactic| walk_at "spl") => `(tactic| first | with_reducible exact Spl.nil | ((with_reducible refine' Spl.cons ?h ?t); (case h => walk_at "pk"); (case t => walk_at "spl")) | ((with_reducible refine' Spl.blk ?h ?t); (case h => walk_at "pkb"); (case t => walk_at "spl")))
local macro_rules | `(tactic| walk_at "sbx") => `(tactic| first | with_reducible exact Sb.refl | with_reducible exact Sb.nil | with_reducible exact Sb.left | ((with_reducible refine' Sb.cons ?h ?t); (case h => walk_at "pk"); (case t => walk_at "sbx")) | ((with_reducible refine' Sb.blk ?h ?t); (case h => walk_at "pkb"); (case t => walk_at "sbx")) | ((with_reducible refine' Sb.drop ?q); (case q => walk_at "sbx")) | ((with_reducible refine' Sb.right ?q); (case q => walk_at "sbx")))
local macro_rules | `(tactic| walk_at "hd") => `(tactic| first | assumption | exact Hd.sb (by assumption) (by walk_at "sbx"))
local macro_rules | `(tactic| walk_at "sq") => `(tactic| first
  | assumption
  | exact Hd.sqL (by assumption) (by walk_at "mem")
  | exact Hd.sqT (by assumption) (by walk_at "mem")
  | exact Hd.sqF (by assumption) (by walk_at "mem")
  | (refine .inl ?_; walk_at "sq")
  | (refine .inr ?_; walk_at "sq"))
local macro_rules | `(tactic| walk_at "at") => `(tactic| first | rfl | assumption | exact atI_nat (by assumption))
local macro_rules | `(tactic| walk_at "dn1") => `(tactic| first
  | exact Dn.int | exact Dn.str | exact Dn.non | exact Dn.bl | assumption
  | ((refine' Dn.tp ?a1 ?m1 ?l1 ?p1); (case a1 => assumption); (case m1 => walk_at "mem"); (case l1 => (simp only [List.length_cons, List.length_nil]; omega)); (case p1 => walk_at "dns"))
  | ((refine' Dn.lt ?a1 ?m1 ?l1 ?p1); (case a1 => assumption); (case m1 => walk_at "mem"); (case l1 => (simp only [List.length_cons, List.length_nil]; omega)); (case p1 => walk_at "dns")))
local macro_rules | `(tactic| walk_at "dns") => `(tactic| first | exact Paired.nil | exact Dn.ints | ((refine' Paired.cons ?a1 ?b1); (case a1 => walk_at "dn1"); (case b1 => walk_at "dns")))
local macro_rules | `(tactic| walk_at "g1") => `(tactic| first
  | ((with_reducible refine' g_ixI ?h1 ?h2 ?h3 ?_); (case h1 => assumption); (case h2 => walk_at "mem"); (case h3 => omega); intro z hz)
  | ((with_reducible refine' g_ixIT ?h1 ?h2 ?h3 ?_); (case h1 => assumption); (case h2 => walk_at "mem"); (case h3 => omega); intro z hz)
  | ((with_reducible refine' g_setI ?h1 ?h2 ?h3 ?_); (case h1 => assumption); (case h2 => walk_at "pk"); (case h3 => omega); intro H2 hh2)
  | ((with_reducible refine' w_ixL ?h1 ?h2 ?_); (case h1 => walk_at "sq"); (case h2 => walk_at "at"))
  | ((with_reducible refine' w_ixT ?h1 ?h2 ?_); (case h1 => walk_at "sq"); (case h2 => walk_at "at"))
  | ((with_reducible refine' w_ixAny ?h1 ?h2 ?_); (case h1 => walk_at "sq"); (case h2 => walk_at "at"))
  | ((with_reducible refine' c_lenA ?h1 ?_); (case h1 => walk_at "sq"))
  | ((with_reducible refine' c_isi ?t1 ?k1 ?_); (case t1 => first | exact ty_T (by walk_at "sq") | exact ty_L (by walk_at "sq")); (case k1 => walk_at "kit"))
  | ((with_reducible refine' g_lst ?h1 ?h2 ?_); (case h1 => assumption); (case h2 => walk_at "sz"); intro p H2 hh2)
  | ((with_reducible refine' g_tup ?h1 ?h2 ?_); (case h1 => assumption); (case h2 => walk_at "sz"); intro p H2 hh2)
  | ((with_reducible refine' g_dict ?h1 ?_); (case h1 => assumption); intro p H2 hh2)
  | ((with_reducible refine' g_listL ?h1 ?h2 ?_); (case h1 => assumption); (case h2 => walk_at "sq"); intro p H2 hh2)
  | ((with_reducible refine' g_listT ?h1 ?h2 ?_); (case h1 => assumption); (case h2 => walk_at "sq"); intro p H2 hh2)
  | ((with_reducible refine' g_tupL ?h1 ?h2 ?_); (case h1 => assumption); (case h2 => walk_at "sq"); intro p H2 hh2)
  | ((with_reducible refine' g_set ?h1 ?h2 ?h3 ?_); (case h1 => assumption); (case h2 => walk_at "pk"); (case h3 => first | rfl | assumption | exact Evl.ixN_nat (by first | omega | (simp only [List.length_cons, List.length_nil]; omega))); intro H2 hh2)
  | ((with_reducible refine' g_kbm ?h1 ?h2 ?_); (case h1 => assumption); (case h2 => walk_at "mem"))
  | ((with_reducible refine' g_kbm0 ?h1 ?h2 ?_); (case h1 => assumption); (case h2 => walk_at "mem"))
  | ((with_reducible refine' g_app ?h1 ?h2 ?h3 ?_); (case h1 => assumption); (case h2 => walk_at "pk"); (case h3 => walk_at "sz"); intro H2 hh2)
  | ((with_reducible refine' g_kapp ?h1 ?h2 ?h3 ?_); (case h1 => assumption); (case h2 => walk_at "pk"); (case h3 => walk_at "sz"); intro H2 hh2)
  | ((with_reducible refine' g_fld ?h1 ?h2 ?h3 ?h4 ?h5 ?_); (case h1 => assumption); (case h2 => walk_at "mem"); (case h3 => assumption); (case h4 => assumption); (case h5 => rfl))
  | ((with_reducible refine' g_sfld ?h1 ?h2 ?h3 ?h4 ?h5 ?_); (case h1 => assumption); (case h2 => walk_at "pk"); (case h3 => assumption); (case h4 => assumption); (case h5 => decide); intro H2 hh2)
  | ((with_reducible refine' g_meth ?h1 ?h2 ?h3 ?_); (case h1 => assumption); (case h2 => walk_at "mem"); (case h3 => rfl))
  | ((with_reducible refine' g_prop ?h1 ?h2 ?_); (case h1 => assumption); (case h2 => walk_at "mem"))
  | ((with_reducible refine' g_make ?h1 ?_); (case h1 => assumption); intro x H2 hh2)
  | ((with_reducible refine' g_cat ?h1 ?h2 ?h3 ?h4 ?_); (case h1 => assumption); (case h2 => walk_at "mem"); (case h3 => walk_at "mem"); (case h4 => walk_at "sz"); intro p H2 hh2)
  | ((with_reducible refine' g_inT ?h1 ?h2 ?h3 ?h4 ?h5 ?_); (case h1 => assumption); (case h2 => walk_at "mem"); (case h3 => rfl); (case h4 => rfl); (case h5 => rfl)))
local macro_rules | `(tactic| walk_at "gs") => `(tactic| repeat first | walk_at "s1" | walk_at "g1")
local macro_rules | `(tactic| walk_at "ite") => `(tactic| first
  | ((with_reducible refine' w_iteT ?h1 ?_); (case h1 => omega))
  | ((with_reducible refine' w_iteF ?h1 ?_); (case h1 => omega))
  | (with_reducible refine w_ite ?_ ?_ <;> intro hq)
  | ((with_reducible refine' w_iteNT ?h1 ?_); (case h1 => omega))
  | ((with_reducible refine' w_iteNF ?h1 ?_); (case h1 => omega))
  | (with_reducible refine w_iteN ?_ ?_ <;> intro hq))
local macro_rules | `(tactic| walk_at "go") => `(tactic| repeat' first | walk_at "s1" | walk_at "g1" | walk_at "ite")
local macro_rules | `(tactic| walk_at "g1") => `(tactic| first
  | ((with_reducible refine' g_take1 ?h1 ?h2 ?h3 ?h4 ?_); (case h1 => assumption); (case h2 => walk_at "spl"); (case h3 => omega); (case h4 => omega); intro k H2 hk1 hh2)
  | ((with_reducible refine' g_take ?h1 ?h2 ?h4 ?_); (case h1 => assumption); (case h2 => walk_at "spl"); (case h4 => omega); intro k H2 hk1 hh2)
  | ((with_reducible refine' g_betweenN ?h1 ?h2 ?h5 ?h3 ?h4 ?_); (case h1 => assumption); (case h2 => walk_at "spl"); (case h5 => omega); (case h3 => omega); (case h4 => omega); intro k H2 hk1 hk2 hh2)
  | ((with_reducible refine' g_between ?h1 ?h2 ?h3 ?h4 ?_); (case h1 => assumption); (case h2 => walk_at "spl"); (case h3 => omega); (case h4 => omega); intro k H2 hk1 hk2 hh2)
  | ((with_reducible refine' g_size ?h1 ?h2 ?h3 ?h4 ?_); (case h1 => assumption); (case h2 => walk_at "spl"); (case h3 => omega); (case h4 => omega); intro k H2 hk1 hh2)
  | ((with_reducible refine' g_word ?h1 ?h2 ?_); (case h1 => assumption); (case h2 => walk_at "spl"); intro k H2 hk1 hh2))
section
variable {P : Program} {w : World} {K : PySem.W.Frag} {mg : Str → Option Value} {base : Heap} {aREG aOPS : Addr}
section
variable {H H' : Hp} {L R : List Cell} {Q : VK} {E : XK} {C m wl tP : Addr} {ws : List Int}
theorem g_awords {y : Addr} {xs : List V} {r : Bool} (hh : Hd H L) (s : Spl L [tblC tP] R) (hy : SqL K H y xs ∨ SqT K H y xs) (hk : ∀ v ∈ xs, ∃ t, KH K H v t) (e : xs.all isW = r) (q : ∀ H2, Hd H2 (tblC tP :: R) → Q (.bl r) H2) : sp_words K tP [.ref y] H Q E :=
  have h := hh.spl s
  u_words hy hk (h.tbl (List.mem_cons_self ..)) e fun H2 hT U => q H2 (Hd.put (A := [tblC tP]) (B := [tblC tP]) h U (fun a ha => ha) (let ⟨ps, e, t⟩ := hT; Hd.one (c := tblC tP) e ⟨ps, rfl, t⟩) fun c hc => .inl (List.mem_map_of_mem hc))
end
theorem all_words {ws : List Int} (h : ∀ x ∈ ws, (0 : Int) ≤ x ∧ x ≤ 65535) : (ws.map V.int).all isW = true := by
  rw [List.all_eq_true]
  intro v hv
  obtain ⟨i, hi, rfl⟩ := List.mem_map.mp hv
  exact decide_eq_true (h i hi)
theorem kh_ints {H : Hp} {ws : List Int} : ∀ v ∈ ws.map V.int, ∃ t, KH K H v t := fun v h => by
  obtain ⟨i, _, rfl⟩ := List.mem_map.mp h
  exact ⟨_, .int⟩
theorem dn_ints {H : Hp} {L : List Cell} {p : Addr} {ws : List Int} (hh : Hd H L) (m : lstC p (ws.map V.int) ∈ L) (hl : ws.length ≤ 128) : Dn K [] H 2 (.ref p) (.list (ws.map PyData.int)) := Dn.lt (n := 1) hh m (by rw [List.length_map]; omega) Dn.ints
def sp_isl (K : PySem.W.Frag) (tP : Addr) : Sp := fun vs H Q _ => ∃ (l : Addr) (lo hi : Int) (ws : List Int) (R : List Cell), vs = [.ref l, .int lo, .int hi] ∧ lo ≤ ws.length ∧ (ws.length : Int) ≤ hi ∧ (∀ x ∈ ws, (0 : Int) ≤ x ∧ x ≤ 65535) ∧ Hd H (lstC l (ws.map V.int) :: tblC tP :: R) ∧ ∀ H', Hd H' (lstC l (ws.map V.int) :: tblC tP :: R) → Q (.bl true) H'
theorem g_isl {tP l : Addr} {lo hi : Int} {ws : List Int} {H : Hp} {L R : List Cell} {Q : VK} {E : XK} (hh : Hd H L) (s : Spl L [lstC l (ws.map V.int), tblC tP] R) (h1 : lo ≤ ws.length) (h2 : (ws.length : Int) ≤ hi) (hw : ∀ x ∈ ws, (0 : Int) ≤ x ∧ x ≤ 65535) (q : ∀ H', Hd H' (lstC l (ws.map V.int) :: tblC tP :: R) → Q (.bl true) H') : sp_isl K tP [.ref l, .int lo, .int hi] H Q E :=
  ⟨l, lo, hi, ws, R, rfl, h1, h2, hw, hh.spl s, q⟩
theorem c_isl {tP : Addr} (T : Txt K mg aREG aOPS) (d : DefAt K mg "is_list_of_words" s_is_list_of_words) (c_are_words : C8.Cal P w K mg base 4 "are_words" (sp_words K tP) []) : C8.Cal P w K mg base 5 "is_list_of_words" (sp_isl K tP) [] := by
  refine mk d sc_is_list_of_words (fun _ _ _ _ _ _ us hl => match us, hl with | [_, _, _], _ => rfl) (fun vs H Q E h => ?_) (fun f cdv A outer s H vs Q E hr h => ?_)
  · obtain ⟨l, lo, hi, ws, R, rfl, _⟩ := h
    rfl
  · obtain ⟨l, lo, hi, ws, R, rfl, h1, h2, hw, hh, q⟩ := h
    refine ⟨_, (pss_one (ps_ret (pe_and (pe_callB call_isi (by rfl) T.b_isinstance (by decide +kernel) (pa_cons (pv 0) (pa_cons (pe_bltn (v := .ty "list") (by rfl) T.b_list (by decide +kernel) rfl) pa_nil))) (pe_and (pe_chain op_le op_le (pv 1) (pe_callB Wk.b_len (by rfl) T.b_len (by decide +kernel) (pa_cons (pv 0) pa_nil)) (pv 2)) (pe_one (C8.pe_c c_are_words hr (by first | decide | omega) rfl (pa_cons (pv 0) pa_nil))))))), ?_⟩
    walk_at "gs"
    show tChain _ _ _ _ _ _ _ _
    refine ⟨_, rfl, ?_⟩
    walk_at "gs"
    rw [List.length_map]
    rw [if_pos (decide_eq_true h1)]
    refine ⟨_, rfl, _, _, rfl, rfl, _, rfl, ?_⟩
    rw [if_pos (decide_eq_true h2)]
    walk_at "gs"
    refine g_awords (by assumption) (by walk_at "spl") (by walk_at "sq") kh_ints (all_words hw) fun H3 h3 => ?_
    exact q H3 (by walk_at "hd")
def sp_askWs (K : PySem.W.Frag) (tP : Addr) : Sp := fun vs H Q _ => ∃ (z : Str) (l : Addr) (lo hi : Int) (ws : List Int) (R : List Cell), vs = [.str z, .ref l, .int lo, .int hi] ∧ lo ≤ ws.length ∧ (ws.length : Int) ≤ hi ∧ (∀ x ∈ ws, (0 : Int) ≤ x ∧ x ≤ 65535) ∧ Hd H (lstC l (ws.map V.int) :: tblC tP :: R) ∧ ∀ H', Hd H' (lstC l (ws.map V.int) :: tblC tP :: R) → Q .non H'
theorem g_askWs {tP l : Addr} {z : Str} {lo hi : Int} {ws : List Int} {H : Hp} {L R : List Cell} {Q : VK} {E : XK} (hh : Hd H L) (s : Spl L [lstC l (ws.map V.int), tblC tP] R) (h1 : lo ≤ ws.length) (h2 : (ws.length : Int) ≤ hi) (hw : ∀ x ∈ ws, (0 : Int) ≤ x ∧ x ≤ 65535) (q : ∀ H', Hd H' (lstC l (ws.map V.int) :: tblC tP :: R) → Q .non H') : sp_askWs K tP [.str z, .ref l, .int lo, .int hi] H Q E :=
  ⟨z, l, lo, hi, ws, R, rfl, h1, h2, hw, hh.spl s, q⟩
theorem c_askWs {tP : Addr} (T : Txt K mg aREG aOPS) (d : DefAt K mg "ask_words" s_ask_words) (c_is_list_of_words : C8.Cal P w K mg base 5 "is_list_of_words" (sp_isl K tP) []) : C8.Cal P w K mg base 6 "ask_words" (sp_askWs K tP) [] := by
  refine mk d sc_ask_words (fun _ _ _ _ _ _ us hl => match us, hl with | [_, _, _, _], _ => rfl) (fun vs H Q E h => ?_) (fun f cdv A outer s H vs Q E hr h => ?_)
  · obtain ⟨z, l, lo, hi, ws, R, rfl, _⟩ := h
    rfl
  · obtain ⟨z, l, lo, hi, ws, R, rfl, h1, h2, hw, hh, q⟩ := h
    refine ⟨_, (pss_one (ps_if (pt_not (pt_val (C8.pe_c c_is_list_of_words hr (by first | decide | omega) rfl (pa_cons (pv 1) (pa_cons (pv 2) (pa_cons (pv 3) pa_nil))))))
    (pss_one ps_never)
    pss_nil)), ?_⟩
    walk_at "gs"
    refine g_isl (by assumption) (by walk_at "spl") h1 h2 hw fun H3 h3 => ?_
    walk_at "gs"
    exact q H3 (by walk_at "hd")
end
end K46
set_option Elab.async false
set_option linter.all false
set_option maxRecDepth 100000
set_option maxHeartbeats 4000000
namespace K46
open PySem PySem.Spec PyProof.Rows L2 Wk
local macro_rules | `(tactic| walk_at "u1") => `(tactic| fail "no more")
local macro_rules | `(tactic| walk_at "pos") => `(tactic| first | assumption | omega | decide | (simp only [Int.ofNat_eq_natCast] at *; omega))
local macro_rules | `(tactic| walk_at "sz") => `(tactic| first
  | (simp only [List.length_cons, List.length_nil]; decide)
  | exact Evl.sz_of (by omega)
  | exact Evl.sz_lt (by omega)
  | exact Evl.sz_of (by simp only [List.length_map, List.length_append, List.length_cons, List.length_nil, List.length_replicate]; omega)
  | exact Evl.sz_lt (by simp only [List.length_map, List.length_append, List.length_cons, List.length_nil, List.length_replicate]; omega))
local macro_rules | `(tactic| walk_at "cond") => `(tactic| first
  | exact Or.inr ⟨by decide, by decide⟩
  | (show (0 : Int) < _; first | decide | assumption | omega)
  | exact Or.inl ⟨by omega, by omega⟩
  | exact Or.inr ⟨by omega, by omega⟩
  | exact ⟨by decide, by decide, by decide⟩
  | exact log2_lt (by omega) (by omega)
  | exact ⟨by omega, by omega⟩)
local macro_rules | `(tactic| walk_at "ty") => `(tactic| first
  | exact ty_int | exact ty_bl | exact ty_str | exact ty_non
  | exact ty_L (by assumption) | exact ty_T (by assumption)
  | exact ty_L (SqL.of (by assumption)) | exact ty_T (SqT.of (by assumption)))
local macro_rules | `(tactic| walk_at "kit") => `(tactic| first
  | exact k_ii | exact k_ib | exact k_is | exact k_il | exact k_it
  | exact k_bb | exact k_bi | exact k_bs | exact k_bl | exact k_bt
  | exact k_ss | exact k_sb | exact k_si | exact k_sl | exact k_st
  | exact k_ll | exact k_lb | exact k_li | exact k_ls | exact k_lt
  | exact k_tt | exact k_tb | exact k_ti | exact k_ts | exact k_tl
  | exact k_nn | exact k_ni | exact k_ns | exact k_nl | exact k_nt)
local macro_rules | `(tactic| walk_at "s1") => `(tactic| first
  | with_reducible refine w_seq ?_
  | with_reducible refine w_set ?_
  | with_reducible refine w_op ?_
  | ((with_reducible refine' w_var ?h1 ?_); (case h1 => rfl))
  | with_reducible refine w_c ?_
  | with_reducible refine w_cb ?_
  | with_reducible refine w_cons ?_
  | with_reducible refine w_nil ?_
  | with_reducible refine w_I0 ?_
  | ((with_reducible refine' w_I ?c1 ?_); case c1 => walk_at "cond")
  | with_reducible refine w_ret ?_
  | with_reducible refine w_next ?_
  | with_reducible refine w_ifS ?_
  | with_reducible refine w_test ?_
  | with_reducible refine w_tB ?_
  | with_reducible refine w_k ?_
  | with_reducible refine w_eqI ?_
  | with_reducible refine w_neI ?_
  | with_reducible refine w_eqS ?_
  | with_reducible refine w_neS ?_
  | with_reducible refine w_and ?_
  | with_reducible refine w_or ?_
  | with_reducible refine w_not ?_
  | with_reducible refine w_andV ?_
  | with_reducible refine w_orV ?_
  | with_reducible refine w_notV ?_
  | with_reducible refine w_ifE ?_
  | with_reducible refine w_true ?_
  | with_reducible refine w_false ?_
  | with_reducible refine w_ntrue ?_
  | with_reducible refine w_nfalse ?_
  | with_reducible refine w_call ?_
  | with_reducible refine c_int ?_
  | with_reducible refine c_abs ?_
  | with_reducible refine c_max ?_
  | with_reducible refine c_min ?_
  | with_reducible refine w_drop ?_
  | with_reducible refine w_sfld ?_
  | with_reducible refine w_meth ?_
  | with_reducible refine w_make ?_
  | with_reducible refine w_prop ?_
  | with_reducible refine w_callK ?_
  | with_reducible refine w_callN ?_
  | with_reducible refine w_star ?_
  | with_reducible refine w_gcons ?_
  | with_reducible refine w_gname ?_
  | with_reducible refine w_gnil ?_
  | with_reducible refine w_retN ?_
  | with_reducible refine w_tup ?_
  | with_reducible refine w_lst ?_
  | with_reducible refine w_fld ?_
  | with_reducible refine w_bm ?_
  | with_reducible refine w_bm0 ?_
  | with_reducible refine w_forL ?_
  | with_reducible refine w_forT ?_
  | with_reducible refine w_forS ?_
  | with_reducible refine w_forR ?_
  | with_reducible refine w_lcR ?_
  | with_reducible refine w_lcL ?_
  | with_reducible refine w_lcT ?_
  | with_reducible refine w_isN ?_
  | with_reducible refine w_notN ?_
  | with_reducible refine w_asg ?_
  | with_reducible refine w_gsub ?_
  | ((with_reducible refine' w_aug ?h1 ?_); (case h1 => rfl))
  | with_reducible refine w_augS ?_
  | with_reducible refine w_ipI ?_
  | with_reducible refine w_un ?_
  | with_reducible refine w_U ?_
  | ((with_reducible refine' w_iteF ?f1 ?_); case f1 => (first | (intro h; cases h; done) | decide))
  | ((with_reducible refine' w_iteT ?f1 ?_); case f1 => rfl)
  | ((with_reducible refine' w_iteNF ?f1 ?_); case f1 => rfl)
  | ((with_reducible refine' w_iteNT ?f1 ?_); case f1 => (first | (intro h; cases h; done) | decide))
  | ((with_reducible refine' c_isi ?t1 ?k1 ?_); (case t1 => walk_at "ty"); (case k1 => walk_at "kit"))
  | ((with_reducible refine' w_eq ?e1 ?_); case e1 => rfl)
  | ((with_reducible refine' w_ne ?e1 ?_); case e1 => rfl)
  | walk_at "u1")
local macro_rules | `(tactic| walk_at "s") => `(tactic| repeat walk_at "s1")
local macro_rules | `(tactic| walk_at "mem") => `(tactic| first | with_reducible exact List.mem_cons_self .. | ((with_reducible refine' List.mem_cons_of_mem _ ?q); (case q => walk_at "mem")) | assumption | ((with_reducible refine' List.mem_append_right _ ?q); (case q => walk_at "mem")) | (exact List.mem_append_left _ (by assumption)))
local macro_rules | `(tactic| walk_at "pk") => `(tactic| first | with_reducible exact Pk.here | ((with_reducible refine' Pk.there ?q); (case q => walk_at "pk")) | ((with_reducible refine' Pk.app ?q); (case q => walk_at "pk")))
local macro_rules | `(tactic| walk_at "pkb") => `(tactic| first | with_reducible exact PkB.here | ((with_reducible refine' PkB.there ?q); (case q => walk_at "pkb")) | ((with_reducible refine' PkB.app ?q); (case q => walk_at "pkb")))
local macro_rules | `(tactic| walk_at "spl") => `(tactic| first | with_reducible exact Spl.nil | ((with_reducible refine' Spl.cons ?h ?t); (case h => walk_at "pk"); (case t => walk_at "spl")) | ((with_reducible refine' Spl.blk ?h ?t); (case h => walk_at "pkb"); (case t => walk_at "spl")))
local macro_rules | `(tactic| walk_at "sbx") => `(tactic| first | with_reducible exact Sb.refl | with_reducible exact Sb.nil | with_reducible exact Sb.left | ((with_reducible refine' Sb.cons ?h ?t); (case h => walk_at "pk"); (case t => walk_at "sbx")) | ((with_reducible refine' Sb.blk ?h ?t); (case h => walk_at "pkb"); (case t => walk_at "sbx")) | ((with_reducible refine' Sb.drop ?q); (case q => walk_at "sbx")) | ((with_reducible refine' Sb.right ?q); (case q => walk_at "sbx")))
local macro_rules | `(tactic| walk_at "hd") => `(tactic| first | assumption | exact Hd.sb (by assumption) (by walk_at "sbx"))
local macro_rules | `(tactic| walk_at "sq") => `(tactic| first
  | assumption
  | exact Hd.sqL (by assumption) (by walk_at "mem")
  | exact Hd.sqT (by assumption) (by walk_at "mem")
  | exact Hd.sqF (by assumption) (by walk_at "mem")
  | (refine .inl ?_; walk_at "sq")
  | (refine .inr ?_; walk_at "sq"))
local macro_rules | `(tactic| walk_at "at") => `(tactic| first | rfl | assumption | exact atI_nat (by assumption))
local macro_rules | `(tactic| walk_at "dn1") => `(tactic| first
  | exact Dn.int | exact Dn.str | exact Dn.non | exact Dn.bl | assumption
  | ((refine' Dn.tp ?a1 ?m1 ?l1 ?p1); (case a1 => assumption); (case m1 => walk_at "mem"); (case l1 => (simp only [List.length_cons, List.length_nil]; omega)); (case p1 => walk_at "dns"))
  | ((refine' Dn.lt ?a1 ?m1 ?l1 ?p1); (case a1 => assumption); (case m1 => walk_at "mem"); (case l1 => (simp only [List.length_cons, List.length_nil]; omega)); (case p1 => walk_at "dns")))
local macro_rules | `(tactic| walk_at "dns") => `(tactic| first | exact Paired.nil | exact Dn.ints | ((refine' Paired.cons ?a1 ?b1); (case a1 => walk_at "dn1"); (case b1 => walk_at "dns")))
local macro_rules | `(tactic| walk_at "g1") => `(tactic| first
  | ((with_reducible refine' g_ixI ?h1 ?h2 ?h3 ?_); (case h1 => assumption); (case h2 => walk_at "mem"); (case h3 => omega); intro z hz)
  | ((with_reducible refine' g_ixIT ?h1 ?h2 ?h3 ?_); (case h1 => assumption); (case h2 => walk_at "mem"); (case h3 => omega); intro z hz)
  | ((with_reducible refine' g_setI ?h1 ?h2 ?h3 ?_); (case h1 => assumption); (case h2 => walk_at "pk"); (case h3 => omega); intro H2 hh2)
  | ((with_reducible refine' w_ixL ?h1 ?h2 ?_); (case h1 => walk_at "sq"); (case h2 => walk_at "at"))
  | ((with_reducible refine' w_ixT ?h1 ?h2 ?_); (case h1 => walk_at "sq"); (case h2 => walk_at "at"))
  | ((with_reducible refine' w_ixAny ?h1 ?h2 ?_); (case h1 => walk_at "sq"); (case h2 => walk_at "at"))
  | ((with_reducible refine' c_lenA ?h1 ?_); (case h1 => walk_at "sq"))
  | ((with_reducible refine' c_isi ?t1 ?k1 ?_); (case t1 => first | exact ty_T (by walk_at "sq") | exact ty_L (by walk_at "sq")); (case k1 => walk_at "kit"))
  | ((with_reducible refine' g_lst ?h1 ?h2 ?_); (case h1 => assumption); (case h2 => walk_at "sz"); intro p H2 hh2)
  | ((with_reducible refine' g_tup ?h1 ?h2 ?_); (case h1 => assumption); (case h2 => walk_at "sz"); intro p H2 hh2)
  | ((with_reducible refine' g_dict ?h1 ?_); (case h1 => assumption); intro p H2 hh2)
  | ((with_reducible refine' g_listL ?h1 ?h2 ?_); (case h1 => assumption); (case h2 => walk_at "sq"); intro p H2 hh2)
  | ((with_reducible refine' g_listT ?h1 ?h2 ?_); (case h1 => assumption); (case h2 => walk_at "sq"); intro p H2 hh2)
  | ((with_reducible refine' g_tupL ?h1 ?h2 ?_); (case h1 => assumption); (case h2 => walk_at "sq"); intro p H2 hh2)
  | ((with_reducible refine' g_set ?h1 ?h2 ?h3 ?_); (case h1 => assumption); (case h2 => walk_at "pk"); (case h3 => first | rfl | assumption | exact Evl.ixN_nat (by first | omega | (simp only [List.length_cons, List.length_nil]; omega))); intro H2 hh2)
  | ((with_reducible refine' g_kbm ?h1 ?h2 ?_); (case h1 => assumption); (case h2 => walk_at "mem"))
  | ((with_reducible refine' g_kbm0 ?h1 ?h2 ?_); (case h1 => assumption); (case h2 => walk_at "mem"))
  | ((with_reducible refine' g_app ?h1 ?h2 ?h3 ?_); (case h1 => assumption); (case h2 => walk_at "pk"); (case h3 => walk_at "sz"); intro H2 hh2)
  | ((with_reducible refine' g_kapp ?h1 ?h2 ?h3 ?_); (case h1 => assumption); (case h2 => walk_at "pk"); (case h3 => walk_at "sz"); intro H2 hh2)
  | ((with_reducible refine' g_fld ?h1 ?h2 ?h3 ?h4 ?h5 ?_); (case h1 => assumption); (case h2 => walk_at "mem"); (case h3 => assumption); (case h4 => assumption); (case h5 => rfl))
  | ((with_reducible refine' g_sfld ?h1 ?h2 ?h3 ?h4 ?h5 ?_); (case h1 => assumption); (case h2 => walk_at "pk"); (case h3 => assumption); (case h4 => assumption); (case h5 => decide); intro H2 hh2)
  | ((with_reducible refine' g_meth ?h1 ?h2 ?h3 ?_); (case h1 => assumption); (case h2 => walk_at "mem"); (case h3 => rfl))
  | ((with_reducible refine' g_prop ?h1 ?h2 ?_); (case h1 => assumption); (case h2 => walk_at "mem"))
  | ((with_reducible refine' g_make ?h1 ?_); (case h1 => assumption); intro x H2 hh2)
  | ((with_reducible refine' g_cat ?h1 ?h2 ?h3 ?h4 ?_); (case h1 => assumption); (case h2 => walk_at "mem"); (case h3 => walk_at "mem"); (case h4 => walk_at "sz"); intro p H2 hh2)
  | ((with_reducible refine' g_inT ?h1 ?h2 ?h3 ?h4 ?h5 ?_); (case h1 => assumption); (case h2 => walk_at "mem"); (case h3 => rfl); (case h4 => rfl); (case h5 => rfl)))
local macro_rules | `(tactic| walk_at "gs") => `(tactic| repeat first | walk_at "s1" | walk_at "g1")
local macro_rules | `(tactic| walk_at "ite") => `(tactic| first
  | ((with_reducible refine' w_iteT ?h1 ?_); (case h1 => omega))
  | ((with_reducible refine' w_iteF ?h1 ?_); (case h1 => omega))
  | (with_reducible refine w_ite ?_ ?_ <;> intro hq)
  | ((with_reducible refine' w_iteNT ?h1 ?_); (case h1 => omega))
  | ((with_reducible refine' w_iteNF ?h1 ?_); (case h1 => omega))
  | (with_reducible refine w_iteN ?_ ?_ <;> intro hq))
local macro_rules | `(tactic| walk_at "go") => `(tactic| repeat' first | walk_at "s1" | walk_at "g1" | walk_at "ite")
local macro_rules | `(tactic| walk_at "g1") => `(tactic| first
  | ((with_reducible refine' g_take1 ?h1 ?h2 ?h3 ?h4 ?_); (case h1 => assumption); (case h2 => walk_at "spl"); (case h3 => omega); (case h4 => omega); intro k H2 hk1 hh2)
  | ((with_reducible refine' g_take ?h1 ?h2 ?h4 ?_); (case h1 => assumption); (case h2 => walk_at "spl"); (case h4 => omega); intro k H2 hk1 hh2)
  | ((with_reducible refine' g_betweenN ?h1 ?h2 ?h5 ?h3 ?h4 ?_); (case h1 => assumption); (case h2 => walk_at "spl"); (case h5 => omega); (case h3 => omega); (case h4 => omega); intro k H2 hk1 hk2 hh2)
  | ((with_reducible refine' g_between ?h1 ?h2 ?h3 ?h4 ?_); (case h1 => assumption); (case h2 => walk_at "spl"); (case h3 => omega); (case h4 => omega); intro k H2 hk1 hk2 hh2)
  | ((with_reducible refine' g_size ?h1 ?h2 ?h3 ?h4 ?_); (case h1 => assumption); (case h2 => walk_at "spl"); (case h3 => omega); (case h4 => omega); intro k H2 hk1 hh2)
  | ((with_reducible refine' g_word ?h1 ?h2 ?_); (case h1 => assumption); (case h2 => walk_at "spl"); intro k H2 hk1 hh2))
local macro_rules | `(tactic| walk_at "g1") => `(tactic| first | with_reducible refine w_sl ?_ | with_reducible refine w_part ?_ | with_reducible refine w_noPart ?_ | with_reducible refine w_exI ?_)
section
variable {P : Program} {w : World} {K : PySem.W.Frag} {mg : Str → Option Value} {base : Heap} {aREG aOPS : Addr}
/-- the words are letters and a rest that is not complete -/
inductive Unp : List Int → List (List Int) → List Int → Prop
  | nil : Unp [] [] []
  | cut {n : Nat} {rest : List Int} : n ≤ 7 → rest.length < n → Unp ((n : Int) :: rest) [] ((n : Int) :: rest)
  | cons {l rest r : List Int} {ls : List (List Int)} : l.length ≤ 7 → Unp rest ls r → Unp ((l.length : Int) :: (l ++ rest)) (l :: ls) r
/-- a length above seven stands where a letter begins -/
inductive Spo : List Int → Prop
  | here {n : Nat} {rest : List Int} : 7 < n → Spo ((n : Int) :: rest)
  | next {l rest : List Int} : l.length ≤ 7 → Spo rest → Spo ((l.length : Int) :: (l ++ rest))
/-- the lists of words ls at the addresses as -/
def Ls : List Addr → List (List Int) → List Cell
  | a :: as, l :: ls => lstC a (l.map V.int) :: Ls as ls
  | _, _ => []
theorem Ls.snoc {a : Addr} {l : List Int} : ∀ {as : List Addr} {ls : List (List Int)}, as.length = ls.length → Ls (as ++ [a]) (ls ++ [l]) = Ls as ls ++ [lstC a (l.map V.int)]
  | [], [], _ => rfl
  | b :: as, m :: ls, h => by
    show _ :: Ls (as ++ [a]) (ls ++ [l]) = _
    rw [Ls.snoc (Nat.succ.inj h)]
    rfl
theorem cut_mid {xs : List V} {n m : Nat} (h : m ≤ xs.length) (h2 : n ≤ m) : cutV xs (some (n : Int)) (some (m : Int)) = (xs.drop n).take (m - n) := by
  unfold cutV
  have e1 : HT.sIx xs.length 0 (some (n : Int)) = min n xs.length := by
    show (if (n : Int) < 0 then ((n : Int) + (xs.length : Int)).toNat else min ((n : Int)).toNat xs.length) = min n xs.length
    rw [if_neg (by omega), Int.toNat_natCast]
  have e2 : HT.sIx xs.length xs.length (some (m : Int)) = min m xs.length := by
    show (if (m : Int) < 0 then ((m : Int) + (xs.length : Int)).toNat else min ((m : Int)).toNat xs.length) = min m xs.length
    rw [if_neg (by omega), Int.toNat_natCast]
  rw [e1, e2, Nat.min_eq_left h, Nat.min_eq_left (show n ≤ xs.length by omega)]
section
variable {K : PySem.W.Frag} {H : Hp} {Q : VK} {L : List Cell} {a : Addr} {xs : List V} {n m : Nat}
theorem g_slMid (hh : Hd H L) (h : SqL K H a xs) (h1 : m ≤ xs.length) (h2 : n ≤ m) (q : ∀ p H2, Hd H2 (lstC p ((xs.drop n).take (m - n)) :: L) → Q (.ref p) H2) : rSlL K (.ref a) (some (n : Int)) (some (m : Int)) H Q :=
  ⟨a, xs, rfl, h, fun p hp => q p _ (hh.newL (cut_mid (xs := xs) h1 h2 ▸ New.of hp))⟩
end
def sp_pack (tP : Addr) : Sp := fun vs H Q _ => ∃ (l : Addr) (ws : List Int) (R : List Cell), vs = [.ref l] ∧ ws.length ≤ 7 ∧ (∀ x ∈ ws, (0 : Int) ≤ x ∧ x ≤ 65535) ∧ Hd H (lstC l (ws.map V.int) :: tblC tP :: R) ∧
  ∀ p H', Hd H' (lstC p (((ws.length : Int) :: ws).map V.int) :: lstC l (ws.map V.int) :: tblC tP :: R) → Q (.ref p) H'
theorem b_pack {tP : Addr} (T : Txt K mg aREG aOPS) (c_ask_words : C8.Cal P w K mg base 6 "ask_words" (sp_askWs K tP) []) (f : Addr) (cdv : Value) (A : Around) (outer : List Env) (s : Shared) (H : Hp) (vs : List V) (Q : VK) (E : XK) (hr : Room 6 (A.deeper (envOfC "pack_letter" (defScope s_pack_letter) s.heap.objs.size f cdv))) (h : sp_pack tP vs H Q E) :
    ∃ t, PSs (cxOf C8.CX0 P w K mg base nm_pack_letter "pack_letter" (defScope s_pack_letter) f cdv A outer s H E).nox (defBody s_pack_letter) t ∧ t { nx := fun _ H' => Q .non H', rt := Q } (L2.start nm_pack_letter vs) H := by
  obtain ⟨l, ws, R, rfl, hl, hw, hh, q⟩ := h
  refine ⟨_, (pss_cons (ps_expr (C8.pe_c c_ask_words hr (by first | decide | omega) rfl (pa_cons pe_str (pa_cons (pv 0) (pa_cons pe_int (pa_cons pe_int pa_nil))))))
  (pss_one (ps_ret (pe_lst (pa_cons (pe_callB Wk.b_len (by rfl) T.b_len (by decide +kernel) (pa_cons (pv 0) pa_nil)) (StX.pa_star (pv 0) pa_nil)))))), ?_⟩
  walk_at "gs"
  refine g_askWs hh (by walk_at "spl") (by omega) (by omega) hw fun H1 h1 => ?_
  walk_at "gs"
  refine w_kstarL (Hd.sqL h1 (by walk_at "mem")) ?_
  walk_at "gs"
  rename_i p H2 h2
  rw [List.append_nil, List.length_map] at h2
  exact q p H2 h2
theorem c_pack {tP : Addr} (T : Txt K mg aREG aOPS) (d : DefAt K mg "pack_letter" s_pack_letter) (c_ask_words : C8.Cal P w K mg base 6 "ask_words" (sp_askWs K tP) []) : C8.Cal P w K mg base 7 "pack_letter" (sp_pack tP) [] :=
  mk d sc_pack_letter (fun _ _ _ _ _ _ us hl => match us, hl with | [_], _ => rfl) (fun vs H Q E h => by obtain ⟨l, ws, R, rfl, _⟩ := h; rfl) (b_pack T c_ask_words)
theorem ck_pack {tP : Addr} (T : Txt K mg aREG aOPS) (d : DefAt K mg "pack_letter" s_pack_letter) (c_ask_words : C8.Cal P w K mg base 6 "ask_words" (sp_askWs K tP) []) : CalK P w K mg base 7 "pack_letter" (sp_pack tP) 0 ["letter"] (fun _ zs => zs) := by
  obtain ⟨f, fd, F, hm⟩ := d
  exact mkK F hm sc_pack_letter (fun {α} l => l) (fun r => r) (fun _ _ _ _ _ _ us hl => match us, hl with | [_], _ => rfl) (fun vs H Q E h => by obtain ⟨l, ws, R, rfl, _⟩ := h; rfl) (b_pack T c_ask_words)
end
end K46
set_option Elab.async false
set_option linter.all false
set_option maxRecDepth 100000
set_option maxHeartbeats 4000000
namespace K46
open PySem PySem.Spec PyProof.Rows L2 Wk
local macro_rules | `(tactic| walk_at "u1") => `(tactic| fail "no more")
local macro_rules | `(tactic| walk_at "pos") => `(tactic| first | assumption | omega | decide | (simp only [Int.ofNat_eq_natCast] at *; omega))
local macro_rules | `(tactic| walk_at "sz") => `(tactic| first
  | (simp only [List.length_cons, List.length_nil]; decide)
  | exact Evl.sz_of (by omega)
  | exact Evl.sz_lt (by omega)
  | exact Evl.sz_of (by simp only [List.length_map, List.length_append, List.length_cons, List.length_nil, List.length_replicate]; omega)
  | exact Evl.sz_lt (by simp only [List.length_map, List.length_append, List.length_cons, List.length_nil, List.length_replicate]; omega))
local macro_rules | `(tactic| walk_at "cond") => `(tactic| first
  | exact Or.inr ⟨by decide, by decide⟩
  | (show (0 : Int) < _; first | decide | assumption | omega)
  | exact Or.inl ⟨by omega, by omega⟩
  | exact Or.inr ⟨by omega, by omega⟩
  | exact ⟨by decide, by decide, by decide⟩
  | exact log2_lt (by omega) (by omega)
  | exact ⟨by omega, by omega⟩)
local macro_rules | `(tactic| walk_at "ty") => `(tactic| first
  | exact ty_int | exact ty_bl | exact ty_str | exact ty_non
  | exact ty_L (by assumption) | exact ty_T (by assumption)
  | exact ty_L (SqL.of (by assumption)) | exact ty_T (SqT.of (by assumption)))
local macro_rules | `(tactic| walk_at "kit") => `(tactic| first
  | exact k_ii | exact k_ib | exact k_is | exact k_il | exact k_it
  | exact k_bb | exact k_bi | exact k_bs | exact k_bl | exact k_bt
  | exact k_ss | exact k_sb | exact k_si | exact k_sl | exact k_st
  | exact k_ll | exact k_lb | exact k_li | exact k_ls | exact k_lt
  | exact k_tt | exact k_tb | exact k_ti | exact k_ts | exact k_tl
  | exact k_nn | exact k_ni | exact k_ns | exact k_nl | exact k_nt)
local macro_rules | `(tactic| walk_at "s1") => `(tactic| first
  | with_reducible refine w_seq ?_
  | with_reducible refine w_set ?_
  | with_reducible refine w_op ?_
  | ((with_reducible refine' w_var ?h1 ?_); (case h1 => rfl))
  | with_reducible refine w_c ?_
  | with_reducible refine w_cb ?_
  | with_reducible refine w_cons ?_
  | with_reducible refine w_nil ?_
  | with_reducible refine w_I0 ?_
  | ((with_reducible refine' w_I ?c1 ?_); case c1 => walk_at "cond")
  | with_reducible refine w_ret ?_
  | with_reducible refine w_next ?_
  | with_reducible refine w_ifS ?_
  | with_reducible refine w_test ?_
  | with_reducible refine w_tB ?_
  | with_reducible refine w_k ?_
  | with_reducible refine w_eqI ?_
  | with_reducible refine w_neI ?_
  | with_reducible refine w_eqS ?_
  | with_reducible refine w_neS ?_
  | with_reducible refine w_and ?_
  | with_reducible refine w_or ?_
  | with_reducible refine w_not ?_
  | with_reducible refine w_andV ?_
  | with_reducible refine w_orV ?_
  | with_reducible refine w_notV ?_
  | with_reducible refine w_ifE ?_
  | with_reducible refine w_true ?_
  | with_reducible refine w_false ?_
  | with_reducible refine w_ntrue ?_
  | with_reducible refine w_nfalse ?_
  | with_reducible refine w_call ?_
  | with_reducible refine c_int ?_
  | with_reducible refine c_abs ?_
  | with_reducible refine c_max ?_
  | with_reducible refine c_min ?_
  | with_reducible refine w_drop ?_
  | with_reducible refine w_sfld ?_
  | with_reducible refine w_meth ?_
  | with_reducible refine w_make ?_
  | with_reducible refine w_prop ?_
  | with_reducible refine w_callK ?_
  | with_reducible refine w_callN ?_
  | with_reducible refine w_star ?_
  | with_reducible refine w_gcons ?_
  | with_reducible refine w_gname ?_
  | with_reducible refine w_gnil ?_
  | with_reducible refine w_retN ?_
  | with_reducible refine w_tup ?_
  | with_reducible refine w_lst ?_
  | with_reducible refine w_fld ?_
  | with_reducible refine w_bm ?_
  | with_reducible refine w_bm0 ?_
  | with_reducible refine w_forL ?_
  | with_reducible refine w_forT ?_
  | with_reducible refine w_forS ?_
  | with_reducible refine w_forR ?_
  | with_reducible refine w_lcR ?_
  | with_reducible refine w_lcL ?_
  | with_reducible refine w_lcT ?_
  | with_reducible refine w_isN ?_
  | with_reducible refine w_notN ?_
  | with_reducible refine w_asg ?_
  | with_reducible refine w_gsub ?_
  | ((with_reducible refine' w_aug ?h1 ?_); (case h1 => rfl))
  | with_reducible refine w_augS ?_
  | with_reducible refine w_ipI ?_
  | with_reducible refine w_un ?_
  | with_reducible refine w_U ?_
  | ((with_reducible refine' w_iteF ?f1 ?_); case f1 => (first | (intro h; cases h; done) | decide))
  | ((with_reducible refine' w_iteT ?f1 ?_); case f1 => rfl)
  | ((with_reducible refine' w_iteNF ?f1 ?_); case f1 => rfl)
  | ((with_reducible refine' w_iteNT ?f1 ?_); case f1 => (first | (intro h; cases h; done) | decide))
  | ((with_reducible refine' c_isi ?t1 ?k1 ?_); (case t1 => walk_at "ty"); (case k1 => walk_at "kit"))
  | ((with_reducible refine' w_eq ?e1 ?_); case e1 => rfl)
  | ((with_reducible refine' w_ne ?e1 ?_); case e1 => rfl)
  | walk_at "u1")
local macro_rules | `(tactic| walk_at "s") => `(tactic| repeat walk_at "s1")
local macro_rules | `(tactic| walk_at "mem") => `(tactic| first | with_reducible exact List.mem_cons_self .. | ((with_reducible refine' List.mem_cons_of_mem _ ?q); (case q => walk_at "mem")) | assumption | ((with_reducible refine' List.mem_append_right _ ?q); (case q => walk_at "mem")) | (exact List.mem_append_left _ (by assumption)))
local macro_rules | `(tactic| walk_at "pk") => `(tactic| first | with_reducible exact Pk.here | ((with_reducible refine' Pk.there ?q); (case q => walk_at "pk")) | ((with_reducible refine' Pk.app ?q); (case q => walk_at "pk")))
local macro_rules | `(tactic| walk_at "pkb") => `(tactic| first | with_reducible exact PkB.here | ((with_reducible refine' PkB.there ?q); (case q => walk_at "pkb")) | ((with_reducible refine' PkB.app ?q); (case q => walk_at "pkb")))
local macro_rules | `(tactic| walk_at "spl") => `(tactic| first | with_reducible exact Spl.nil | ((with_reducible refine' Spl.cons ?h ?t); (case h => walk_at "pk"); (case t => walk_at "spl")) | ((with_reducible refine' Spl.blk ?h ?t); (case h => walk_at "pkb"); (case t => walk_at "spl")))
local macro_rules | `(tactic| walk_at "sbx") => `(tactic| first | with_reducible exact Sb.refl | with_reducible exact Sb.nil | with_reducible exact Sb.left | ((with_reducible refine' Sb.cons ?h ?t); (case h => walk_at "pk"); (case t => walk_at "sbx")) | ((with_reducible refine' Sb.blk ?h ?t); (case h => walk_at "pkb"); (case t => walk_at "sbx")) | ((with_reducible refine' Sb.drop ?q); (case q => walk_at "sbx")) | ((with_reducible refine' Sb.right ?q); (case q => walk_at "sbx")))
local macro_rules | `(tactic| walk_at "hd") => `(tactic| first | assumption | exact Hd.sb (by assumption) (by walk_at "sbx"))
local macro_rules | `(tactic| walk_at "sq") => `(tactic| first
  | assumption
  | exact Hd.sqL (by assumption) (by walk_at "mem")
  | exact Hd.sqT (by assumption) (by walk_at "mem")
  | exact Hd.sqF (by assumption) (by walk_at "mem")
  | (refine .inl ?_; walk_at "sq")
  | (refine .inr ?_; walk_at "sq"))
local macro_rules | `(tactic| walk_at "at") => `(tactic| first | rfl | assumption | exact atI_nat (by assumption))
local macro_rules | `(tactic| walk_at "dn1") => `(tactic| first
  | exact Dn.int | exact Dn.str | exact Dn.non | exact Dn.bl | assumption
  | ((refine' Dn.tp ?a1 ?m1 ?l1 ?p1); (case a1 => assumption); (case m1 => walk_at "mem"); (case l1 => (simp only [List.length_cons, List.length_nil]; omega)); (case p1 => walk_at "dns"))
  | ((refine' Dn.lt ?a1 ?m1 ?l1 ?p1); (case a1 => assumption); (case m1 => walk_at "mem"); (case l1 => (simp only [List.length_cons, List.length_nil]; omega)); (case p1 => walk_at "dns")))
local macro_rules | `(tactic| walk_at "dns") => `(tactic| first | exact Paired.nil | exact Dn.ints | ((refine' Paired.cons ?a1 ?b1); (case a1 => walk_at "dn1"); (case b1 => walk_at "dns")))
local macro_rules | `(tactic| walk_at "g1") => `(tactic| first
  | ((with_reducible refine' g_ixI ?h1 ?h2 ?h3 ?_); (case h1 => assumption); (case h2 => walk_at "mem"); (case h3 => omega); intro z hz)
  | ((with_reducible refine' g_ixIT ?h1 ?h2 ?h3 ?_); (case h1 => assumption); (case h2 => walk_at "mem"); (case h3 => omega); intro z hz)
  | ((with_reducible refine' g_setI ?h1 ?h2 ?h3 ?_); (case h1 => assumption); (case h2 => walk_at "pk"); (case h3 => omega); intro H2 hh2)
  | ((with_reducible refine' w_ixL ?h1 ?h2 ?_); (case h1 => walk_at "sq"); (case h2 => walk_at "at"))
  | ((with_reducible refine' w_ixT ?h1 ?h2 ?_); (case h1 => walk_at "sq"); (case h2 => walk_at "at"))
  | ((with_reducible refine' w_ixAny ?h1 ?h2 ?_); (case h1 => walk_at "sq"); (case h2 => walk_at "at"))
  | ((with_reducible refine' c_lenA ?h1 ?_); (case h1 => walk_at "sq"))
  | ((with_reducible refine' c_isi ?t1 ?k1 ?_); (case t1 => first | exact ty_T (by walk_at "sq") | exact ty_L (by walk_at "sq")); (case k1 => walk_at "kit"))
  | ((with_reducible refine' g_lst ?h1 ?h2 ?_); (case h1 => assumption); (case h2 => walk_at "sz"); intro p H2 hh2)
  | ((with_reducible refine' g_tup ?h1 ?h2 ?_); (case h1 => assumption); (case h2 => walk_at "sz"); intro p H2 hh2)
  | ((with_reducible refine' g_dict ?h1 ?_); (case h1 => assumption); intro p H2 hh2)
  | ((with_reducible refine' g_listL ?h1 ?h2 ?_); (case h1 => assumption); (case h2 => walk_at "sq"); intro p H2 hh2)
  | ((with_reducible refine' g_listT ?h1 ?h2 ?_); (case h1 => assumption); (case h2 => walk_at "sq"); intro p H2 hh2)
  | ((with_reducible refine' g_tupL ?h1 ?h2 ?_); (case h1 => assumption); (case h2 => walk_at "sq"); intro p H2 hh2)
  | ((with_reducible refine' g_set ?h1 ?h2 ?h3 ?_); (case h1 => assumption); (case h2 => walk_at "pk"); (case h3 => first | rfl | assumption | exact Evl.ixN_nat (by first | omega | (simp only [List.length_cons, List.length_nil]; omega))); intro H2 hh2)
  | ((with_reducible refine' g_kbm ?h1 ?h2 ?_); (case h1 => assumption); (case h2 => walk_at "mem"))
  | ((with_reducible refine' g_kbm0 ?h1 ?h2 ?_); (case h1 => assumption); (case h2 => walk_at "mem"))
  | ((with_reducible refine' g_app ?h1 ?h2 ?h3 ?_); (case h1 => assumption); (case h2 => walk_at "pk"); (case h3 => walk_at "sz"); intro H2 hh2)
  | ((with_reducible refine' g_kapp ?h1 ?h2 ?h3 ?_); (case h1 => assumption); (case h2 => walk_at "pk"); (case h3 => walk_at "sz"); intro H2 hh2)
  | ((with_reducible refine' g_fld ?h1 ?h2 ?h3 ?h4 ?h5 ?_); (case h1 => assumption); (case h2 => walk_at "mem"); (case h3 => assumption); (case h4 => assumption); (case h5 => rfl))
  | ((with_reducible refine' g_sfld ?h1 ?h2 ?h3 ?h4 ?h5 ?_); (case h1 => assumption); (case h2 => walk_at "pk"); (case h3 => assumption); (case h4 => assumption); (case h5 => decide); intro H2 hh2)
  | ((with_reducible refine' g_meth ?h1 ?h2 ?h3 ?_); (case h1 => assumption); (case h2 => walk_at "mem"); (case h3 => rfl))
  | ((with_reducible refine' g_prop ?h1 ?h2 ?_); (case h1 => assumption); (case h2 => walk_at "mem"))
  | ((with_reducible refine' g_make ?h1 ?_); (case h1 => assumption); intro x H2 hh2)
  | ((with_reducible refine' g_cat ?h1 ?h2 ?h3 ?h4 ?_); (case h1 => assumption); (case h2 => walk_at "mem"); (case h3 => walk_at "mem"); (case h4 => walk_at "sz"); intro p H2 hh2)
  | ((with_reducible refine' g_inT ?h1 ?h2 ?h3 ?h4 ?h5 ?_); (case h1 => assumption); (case h2 => walk_at "mem"); (case h3 => rfl); (case h4 => rfl); (case h5 => rfl)))
local macro_rules | `(tactic| walk_at "gs") => `(tactic| repeat first | walk_at "s1" | walk_at "g1")
local macro_rules | `(tactic| walk_at "ite") => `(tactic| first
  | ((with_reducible refine' w_iteT ?h1 ?_); (case h1 => omega))
  | ((with_reducible refine' w_iteF ?h1 ?_); (case h1 => omega))
  | (with_reducible refine w_ite ?_ ?_ <;> intro hq)
  | ((with_reducible refine' w_iteNT ?h1 ?_); (case h1 => omega))
  | ((with_reducible refine' w_iteNF ?h1 ?_); (case h1 => omega))
  | (with_reducible refine w_iteN ?_ ?_ <;> intro hq))
local macro_rules | `(tactic| walk_at "go") => `(tactic| repeat' first | walk_at "s1" | walk_at "g1" | walk_at "ite")
local macro_rules | `(tactic| walk_at "g1") => `(tactic| first
  | ((with_reducible refine' g_take1 ?h1 ?h2 ?h3 ?h4 ?_); (case h1 => assumption); (case h2 => walk_at "spl"); (case h3 => omega); (case h4 => omega); intro k H2 hk1 hh2)
  | ((with_reducible refine' g_take ?h1 ?h2 ?h4 ?_); (case h1 => assumption); (case h2 => walk_at "spl"); (case h4 => omega); intro k H2 hk1 hh2)
  | ((with_reducible refine' g_betweenN ?h1 ?h2 ?h5 ?h3 ?h4 ?_); (case h1 => assumption); (case h2 => walk_at "spl"); (case h5 => omega); (case h3 => omega); (case h4 => omega); intro k H2 hk1 hk2 hh2)
  | ((with_reducible refine' g_between ?h1 ?h2 ?h3 ?h4 ?_); (case h1 => assumption); (case h2 => walk_at "spl"); (case h3 => omega); (case h4 => omega); intro k H2 hk1 hk2 hh2)
  | ((with_reducible refine' g_size ?h1 ?h2 ?h3 ?h4 ?_); (case h1 => assumption); (case h2 => walk_at "spl"); (case h3 => omega); (case h4 => omega); intro k H2 hk1 hh2)
  | ((with_reducible refine' g_word ?h1 ?h2 ?_); (case h1 => assumption); (case h2 => walk_at "spl"); intro k H2 hk1 hh2))
local macro_rules | `(tactic| walk_at "g1") => `(tactic| first | with_reducible refine w_sl ?_ | with_reducible refine w_part ?_ | with_reducible refine w_noPart ?_ | with_reducible refine w_exI ?_)
section
variable {P : Program} {w : World} {K : PySem.W.Frag} {mg : Str → Option Value} {base : Heap} {aREG aOPS : Addr}
def sp_unpack (tP : Addr) : Sp := fun vs H Q _ => ∃ (l : Addr) (ws : List Int) (ls : List (List Int)) (r : List Int) (R : List Cell), vs = [.ref l] ∧ ws.length ≤ 400 ∧ (∀ x ∈ ws, (0 : Int) ≤ x ∧ x ≤ 65535) ∧ Unp ws ls r ∧ Hd H (lstC l (ws.map V.int) :: tblC tP :: R) ∧
  ∀ (t p q : Addr) (as : List Addr) H', as.length = ls.length → Hd H' (tupC t [.ref p, .ref q] :: lstC p (as.map V.ref) :: lstC q (r.map V.int) :: (Ls as ls ++ (lstC l (ws.map V.int) :: tblC tP :: R))) → Q (.ref t) H'
theorem b_unpack {tP : Addr} (T : Txt K mg aREG aOPS) (c_ask_words : C8.Cal P w K mg base 6 "ask_words" (sp_askWs K tP) []) (f : Addr) (cdv : Value) (A : Around) (outer : List Env) (s : Shared) (H : Hp) (vs : List V) (Q : VK) (E : XK) (hr : Room 6 (A.deeper (envOfC "unpack_letters" (defScope s_unpack_letters) s.heap.objs.size f cdv))) (h : sp_unpack tP vs H Q E) :
    ∃ t, PSs (cxOf C8.CX0 P w K mg base nm_unpack_letters "unpack_letters" (defScope s_unpack_letters) f cdv A outer s H E).nox (defBody s_unpack_letters) t ∧ t { nx := fun _ H' => Q .non H', rt := Q } (L2.start nm_unpack_letters vs) H := by
  obtain ⟨l, ws, ls, r, R, rfl, hl, hw, hu, hh, q⟩ := h
  refine ⟨_, (pss_cons (ps_expr (C8.pe_c c_ask_words hr (by first | decide | omega) rfl (pa_cons pe_str (pa_cons (pv 0) (pa_cons pe_int (pa_cons pe_int pa_nil))))))
  (pss_cons (ps_set (i := 1) sc_unpack_letters.nd rfl (Or.inl rfl) (pe_lst pa_nil))
  (pss_cons (ps_set (i := 2) sc_unpack_letters.nd rfl (Or.inl rfl) pe_int)
  (pss_cons (ps_while PassesOwn.never (pt_cmpR op_lt (pv 2) (pe_callB Wk.b_len (by rfl) T.b_len (by decide +kernel) (pa_cons (pv 0) pa_nil)) (nomark _))
    (pss_cons (ps_set (i := 3) sc_unpack_letters.nd rfl (Or.inl rfl) (pe_ix ix_list (pv 0) (pv 2) (fun _ _ => rfl)))
      (pss_cons (ps_if (pt_cmpR op_gt (pv 3) pe_int (nomark _))
        (pss_one ps_never)
        pss_nil)
      (pss_cons (ps_set (i := 4) sc_unpack_letters.nd rfl (Or.inl rfl) (pe_op op_add (pe_op op_add (pv 2) pe_int) (pv 3)))
      (pss_cons (ps_if (pt_cmpR op_gt (pv 4) (pe_callB Wk.b_len (by rfl) T.b_len (by decide +kernel) (pa_cons (pv 0) pa_nil)) (nomark _))
        (pss_one ps_break)
        pss_nil)
      (pss_cons (ps_expr (pe_bm PySem.F.plainAttrs_list PySem.F.slot_list_append PySem.F.type_list_append mt_append (pv 1) (pa_cons (pe_slice sl_list (pv 0) (po_some (pe_op op_add (pv 2) pe_int)) (po_some (pv 4))) pa_nil)))
      (pss_one (ps_set (i := 2) sc_unpack_letters.nd rfl (Or.inl rfl) (pv 4)))))))))
  (pss_one (ps_ret (pe_tup (pa_cons (pv 1) (pa_cons (pe_slice sl_list (pv 0) (po_some (pv 2)) po_none) pa_nil))))))))), ?_⟩
  walk_at "gs"
  refine g_askWs hh (by walk_at "spl") (by omega) (by omega) hw fun H1 h1 => ?_
  walk_at "gs"
  rename_i pl H2 h2
  refine ⟨fun m σ H => ∃ (n : Nat) (ls0 ls1 : List (List Int)) (as : List Addr) (v3 v4 : Option V), m = ws.length - n ∧ σ = [some (.ref l), some (.ref pl), some (.int n), v3, v4] ∧ n ≤ ws.length ∧ ls = ls0 ++ ls1 ∧ Unp (ws.drop n) ls1 r ∧ as.length = ls0.length ∧ ls0.length ≤ n ∧
    Hd H (lstC pl (as.map V.ref) :: (Ls as ls0 ++ (lstC l (ws.map V.int) :: tblC tP :: R))), ⟨_, 0, [], ls, [], none, none, rfl, rfl, Nat.zero_le _, rfl, hu, rfl, Nat.le_refl _, h2⟩, ?_⟩
  rintro m σ H3 ⟨n, ls0, ls1, as, v3, v4, rfl, rfl, hn, rfl, hu, ha, hc, h3⟩
  walk_at "gs"
  rw [List.length_map]
  generalize hd : ws.drop n = wd at hu
  cases hu with
  | nil =>
    have e := congrArg List.length hd
    rw [List.length_drop] at e
    rw [if_neg (by simp only [decide_eq_true_eq]; simp only [List.length_nil] at e; omega)]
    walk_at "gs"
    refine g_slLo h3 (Hd.sqL h3 (by walk_at "mem")) fun p4 H4 h4 => ?_
    walk_at "gs"
    rename_i t H5 h5
    rw [← List.map_drop, hd] at h5
    exact q t pl p4 as H5 (by rw [List.append_nil]; exact ha) (by rw [List.append_nil]; walk_at "hd")
  | @cut k rest h7 hr =>
    have e := congrArg List.length hd
    rw [List.length_drop, List.length_cons] at e
    have e0 : ws[n]? = some (k : Int) := by
      have := congrArg (·[0]?) hd
      simpa using this
    rw [if_pos (by simp only [decide_eq_true_eq]; omega)]
    refine ⟨_, fun _ _ z => z, ?_⟩
    walk_at "gs"
    rename_i z hz
    rw [e0] at hz
    cases hz
    rw [if_neg (by simp only [decide_eq_true_eq]; omega)]
    walk_at "gs"
    rw [List.length_map]
    rw [if_pos (by simp only [decide_eq_true_eq]; omega)]
    unfold tBreak
    walk_at "gs"
    refine g_slLo h3 (Hd.sqL h3 (by walk_at "mem")) fun p4 H4 h4 => ?_
    walk_at "gs"
    rename_i t H5 h5
    rw [← List.map_drop, hd] at h5
    exact q t pl p4 as H5 (by rw [List.append_nil]; exact ha) (by rw [List.append_nil]; walk_at "hd")
  | @cons l0 rest _ ls1 h7 hu =>
    have e := congrArg List.length hd
    rw [List.length_drop, List.length_cons, List.length_append] at e
    have e0 : ws[n]? = some (l0.length : Int) := by
      have := congrArg (·[0]?) hd
      simpa using this
    rw [if_pos (by simp only [decide_eq_true_eq]; omega)]
    refine ⟨_, fun _ _ z => z, ?_⟩
    walk_at "gs"
    rename_i z hz
    rw [e0] at hz
    cases hz
    rw [if_neg (by simp only [decide_eq_true_eq]; omega)]
    walk_at "gs"
    rw [List.length_map]
    rw [if_neg (by simp only [decide_eq_true_eq]; omega)]
    walk_at "gs"
    rw [show ((n : Int) + 1) = ((n + 1 : Nat) : Int) from by omega, show ((n + 1 : Nat) : Int) + (l0.length : Int) = ((n + 1 + l0.length : Nat) : Int) from by omega]
    refine g_slMid h3 (Hd.sqL h3 (by walk_at "mem")) (by rw [List.length_map]; omega) (by omega) fun p4 H4 h4 => ?_
    have hm : (((ws.map V.int).drop (n + 1)).take (n + 1 + l0.length - (n + 1))) = l0.map V.int := by
      have e3 : ws.drop (n + 1) = l0 ++ rest := by
        rw [← List.drop_drop, hd]
        rfl
      rw [← List.map_drop, e3, show n + 1 + l0.length - (n + 1) = l0.length by omega, ← List.map_take, List.take_left]
    rw [hm] at h4
    walk_at "gs"
    rename_i H5 h5
    refine ⟨_, ?_, n + 1 + l0.length, ls0 ++ [l0], ls1, as ++ [p4], some (.int l0.length), some (.int ((n + 1 + l0.length : Nat) : Int)), rfl, rfl, by omega, by rw [List.append_assoc]; rfl, ?_, by rw [List.length_append, List.length_append, ha]; rfl, by rw [List.length_append, List.length_singleton]; omega, ?_⟩
    · omega
    · rw [← List.drop_drop, ← List.drop_drop, hd]
      show Unp ((l0 ++ rest).drop l0.length) ls1 r
      rw [List.drop_left]
      exact hu
    · rw [Ls.snoc ha, List.map_append, List.append_assoc]
      exact Hd.sb (A := lstC pl (as.map V.ref ++ [V.ref p4]) :: (Ls as ls0 ++ (lstC p4 (l0.map V.int) :: lstC l (ws.map V.int) :: tblC tP :: R))) h5 (by walk_at "sbx")
theorem c_unpack {tP : Addr} (T : Txt K mg aREG aOPS) (d : DefAt K mg "unpack_letters" s_unpack_letters) (c_ask_words : C8.Cal P w K mg base 6 "ask_words" (sp_askWs K tP) []) : C8.Cal P w K mg base 7 "unpack_letters" (sp_unpack tP) [] :=
  mk d sc_unpack_letters (fun _ _ _ _ _ _ us hl => match us, hl with | [_], _ => rfl) (fun vs H Q E h => by obtain ⟨l, ws, ls, r, R, rfl, _⟩ := h; rfl) (b_unpack T c_ask_words)
theorem ck_unpack {tP : Addr} (T : Txt K mg aREG aOPS) (d : DefAt K mg "unpack_letters" s_unpack_letters) (c_ask_words : C8.Cal P w K mg base 6 "ask_words" (sp_askWs K tP) []) : CalK P w K mg base 7 "unpack_letters" (sp_unpack tP) 0 ["words"] (fun _ zs => zs) := by
  obtain ⟨f, fd, F, hm⟩ := d
  exact mkK F hm sc_unpack_letters (fun {α} l => l) (fun r => r) (fun _ _ _ _ _ _ us hl => match us, hl with | [_], _ => rfl) (fun vs H Q E h => by obtain ⟨l, ws, ls, r, R, rfl, _⟩ := h; rfl) (b_unpack T c_ask_words)
end
end K46
set_option Elab.async false
set_option linter.all false
set_option maxRecDepth 100000
set_option maxHeartbeats 4000000
namespace K46
open PySem PySem.Spec PyProof.Rows L2 Wk
local macro_rules | `(tactic| walk_at "u1") => `(tactic| fail "no more")
local macro_rules | `(tactic| walk_at "pos") => `(tactic| first | assumption | omega | decide | (simp only [Int.ofNat_eq_natCast] at *; omega))
local macro_rules | `(tactic| walk_at "sz") => `(tactic| first
  | (simp only [List.length_cons, List.length_nil]; decide)
  | exact Evl.sz_of (by omega)
  | exact Evl.sz_lt (by omega)
  | exact Evl.sz_of (by simp only [List.length_map, List.length_append, List.length_cons, List.length_nil, List.length_replicate]; omega)
  | exact Evl.sz_lt (by simp only [List.length_map, List.length_append, List.length_cons, List.length_nil, List.length_replicate]; omega))
local macro_rules | `(tactic| walk_at "cond") => `(tactic| first
  | exact Or.inr ⟨by decide, by decide⟩
  | (show (0 : Int) < _; first | decide | assumption | omega)
  | exact Or.inl ⟨by omega, by omega⟩
  | exact Or.inr ⟨by omega, by omega⟩
  | exact ⟨by decide, by decide, by decide⟩
  | exact log2_lt (by omega) (by omega)
  | exact ⟨by omega, by omega⟩)
local macro_rules | `(tactic| walk_at "ty") => `(tactic| first
  | exact ty_int | exact ty_bl | exact ty_str | exact ty_non
  | exact ty_L (by assumption) | exact ty_T (by assumption)
  | exact ty_L (SqL.of (by assumption)) | exact ty_T (SqT.of (by assumption)))
local macro_rules | `(tactic| walk_at "kit") => `(tactic| first
  | exact k_ii | exact k_ib | exact k_is | exact k_il | exact k_it
  | exact k_bb | exact k_bi | exact k_bs | exact k_bl | exact k_bt
  | exact k_ss | exact k_sb | exact k_si | exact k_sl | exact k_st
  | exact k_ll | exact k_lb | exact k_li | exact k_ls | exact k_lt
  | exact k_tt | exact k_tb | exact k_ti | exact k_ts | exact k_tl
  | exact k_nn | exact k_ni | exact k_ns | exact k_nl | exact k_nt)
local macro_rules | `(tactic| walk_at "s1") => `(tactic| first
  | with_reducible refine w_seq ?_
  | with_reducible refine w_set ?_
  | with_reducible refine w_op ?_
  | ((with_reducible refine' w_var ?h1 ?_); (case h1 => rfl))
  | with_reducible refine w_c ?_
  | with_reducible refine w_cb ?_
  | with_reducible refine w_cons ?_
  | with_reducible refine w_nil ?_
  | with_reducible refine w_I0 ?_
  | ((with_reducible refine' w_I ?c1 ?_); case c1 => walk_at "cond")
  | with_reducible refine w_ret ?_
  | with_reducible refine w_next ?_
  | with_reducible refine w_ifS ?_
  | with_reducible refine w_test ?_
  | with_reducible refine w_tB ?_
  | with_reducible refine w_k ?_
  | with_reducible refine w_eqI ?_
  | with_reducible refine w_neI ?_
  | with_reducible refine w_eqS ?_
  | with_reducible refine w_neS ?_
  | with_reducible refine w_and ?_
  | with_reducible refine w_or ?_
  | with_reducible refine w_not ?_
  | with_reducible refine w_andV ?_
  | with_reducible refine w_orV ?_
  | with_reducible refine w_notV ?_
  | with_reducible refine w_ifE ?_
  | with_reducible refine w_true ?_
  | with_reducible refine w_false ?_
  | with_reducible refine w_ntrue ?_
  | with_reducible refine w_nfalse ?_
  | with_reducible refine w_call ?_
  | with_reducible refine c_int ?_
  | with_reducible refine c_abs ?_
  | with_reducible refine c_max ?_
  | with_reducible refine c_min ?_
  | with_reducible refine w_drop ?_
  | with_reducible refine w_sfld ?_
  | with_reducible refine w_meth ?_
  | with_reducible refine w_make ?_
  | with_reducible refine w_prop ?_
  | with_reducible refine w_callK ?_
  | with_reducible refine w_callN ?_
  | with_reducible refine w_star ?_
  | with_reducible refine w_gcons ?_
  | with_reducible refine w_gname ?_
  | with_reducible refine w_gnil ?_
  | with_reducible refine w_retN ?_
  | with_reducible refine w_tup ?_
  | with_reducible refine w_lst ?_
  | with_reducible refine w_fld ?_
  | with_reducible refine w_bm ?_
  | with_reducible refine w_bm0 ?_
  | with_reducible refine w_forL ?_
  | with_reducible refine w_forT ?_
  | with_reducible refine w_forS ?_
  | with_reducible refine w_forR ?_
  | with_reducible refine w_lcR ?_
  | with_reducible refine w_lcL ?_
  | with_reducible refine w_lcT ?_
  | with_reducible refine w_isN ?_
  | with_reducible refine w_notN ?_
  | with_reducible refine w_asg ?_
  | with_reducible refine w_gsub ?_
  | ((with_reducible refine' w_aug ?h1 ?_); (case h1 => rfl))
  | with_reducible refine w_augS ?_
  | with_reducible refine w_ipI ?_
  | with_reducible refine w_un ?_
  | with_reducible refine w_U ?_
  | ((with_reducible refine' w_iteF ?f1 ?_); case f1 => (first | (intro h; cases h; done) | decide))
  | ((with_reducible refine' w_iteT ?f1 ?_); case f1 => rfl)
  | ((with_reducible refine' w_iteNF ?f1 ?_); case f1 => rfl)
  | ((with_reducible refine' w_iteNT ?f1 ?_); case f1 => (first | (intro h; cases h; done) | decide))
  | ((with_reducible refine' c_isi ?t1 ?k1 ?_); (case t1 => walk_at "ty"); (case k1 => walk_at "kit"))
  | ((with_reducible refine' w_eq ?e1 ?_); case e1 => rfl)
  | ((with_reducible refine' w_ne ?e1 ?_); case e1 => rfl)
  | walk_at "u1")
local macro_rules | `(tactic| walk_at "s") => `(tactic| repeat walk_at "s1")
local macro_rules | `(tactic| walk_at "mem") => `(tactic| first | with_reducible exact List.mem_cons_self .. | ((with_reducible refine' List.mem_cons_of_mem _ ?q); (case q => walk_at "mem")) | assumption | ((with_reducible refine' List.mem_append_right _ ?q); (case q => walk_at "mem")) | (exact List.mem_append_left _ (by assumption)))
local macro_rules | `(tactic| walk_at "pk") => `(tactic| first | with_reducible exact Pk.here | ((with_reducible refine' Pk.there ?q); (case q => walk_at "pk")) | ((with_reducible refine' Pk.app ?q); (case q => walk_at "pk")))
local macro_rules | `(tactic| walk_at "pkb") => `(tactic| first | with_reducible exact PkB.here | ((with_reducible refine' PkB.there ?q); (case q => walk_at "pkb")) | ((with_reducible refine' PkB.app ?q); (case q => walk_at "pkb")))
local macro_rules | `(tactic| walk_at "spl") => `(tactic| first | with_reducible exact Spl.nil | ((with_reducible refine' Spl.cons ?h ?t); (case h => walk_at "pk"); (case t => walk_at "spl")) | ((with_reducible refine' Spl.blk ?h ?t); (case h => walk_at "pkb"); (case t => walk_at "spl")))
local macro_rules | `(tactic| walk_at "sbx") => `(tactic| first | with_reducible exact Sb.refl | with_reducible exact Sb.nil | with_reducible exact Sb.left | ((with_reducible refine' Sb.cons ?h ?t); (case h => walk_at "pk"); (case t => walk_at "sbx")) | ((with_reducible refine' Sb.blk ?h ?t); (case h => walk_at "pkb"); (case t => walk_at "sbx")) | ((with_reducible refine' Sb.drop ?q); (case q => walk_at "sbx")) | ((with_reducible refine' Sb.right ?q); (case q => walk_at "sbx")))
local macro_rules | `(tactic| walk_at "hd") => `(tactic| first | assumption | exact Hd.sb (by assumption) (by walk_at "sbx"))
local macro_rules | `(tactic| walk_at "sq") => `(tactic| first
  | assumption
  | exact Hd.sqL (by assumption) (by walk_at "mem")
  | exact Hd.sqT (by assumption) (by walk_at "mem")
  | exact Hd.sqF (by assumption) (by walk_at "mem")
  | (refine .inl ?_; walk_at "sq")
  | (refine .inr ?_; walk_at "sq"))
local macro_rules | `(tactic| walk_at "at") => `(tactic| first | rfl | assumption | exact atI_nat (by assumption))
local macro_rules | `(tactic| walk_at "dn1") => `(tactic| first
  | exact Dn.int | exact Dn.str | exact Dn.non | exact Dn.bl | assumption
  | ((refine' Dn.tp ?a1 ?m1 ?l1 ?p1); (case a1 => assumption); (case m1 => walk_at "mem"); (case l1 => (simp only [List.length_cons, List.length_nil]; omega)); (case p1 => walk_at "dns"))
  | ((refine' Dn.lt ?a1 ?m1 ?l1 ?p1); (case a1 => assumption); (case m1 => walk_at "mem"); (case l1 => (simp only [List.length_cons, List.length_nil]; omega)); (case p1 => walk_at "dns")))
local macro_rules | `(tactic| walk_at "dns") => `(tactic| first | exact Paired.nil | exact Dn.ints | ((refine' Paired.cons ?a1 ?b1); (case a1 => walk_at "dn1"); (case b1 => walk_at "dns")))
local macro_rules | `(tactic| walk_at "g1") => `(tactic| first
  | ((with_reducible refine' g_ixI ?h1 ?h2 ?h3 ?_); (case h1 => assumption); (case h2 => walk_at "mem"); (case h3 => omega); intro z hz)
  | ((with_reducible refine' g_ixIT ?h1 ?h2 ?h3 ?_); (case h1 => assumption); (case h2 => walk_at "mem"); (case h3 => omega); intro z hz)
  | ((with_reducible refine' g_setI ?h1 ?h2 ?h3 ?_); (case h1 => assumption); (case h2 => walk_at "pk"); (case h3 => omega); intro H2 hh2)
  | ((with_reducible refine' w_ixL ?h1 ?h2 ?_); (case h1 => walk_at "sq"); (case h2 => walk_at "at"))
  | ((with_reducible refine' w_ixT ?h1 ?h2 ?_); (case h1 => walk_at "sq"); (case h2 => walk_at "at"))
  | ((with_reducible refine' w_ixAny ?h1 ?h2 ?_); (case h1 => walk_at "sq"); (case h2 => walk_at "at"))
  | ((with_reducible refine' c_lenA ?h1 ?_); (case h1 => walk_at "sq"))
  | ((with_reducible refine' c_isi ?t1 ?k1 ?_); (case t1 => first | exact ty_T (by walk_at "sq") | exact ty_L (by walk_at "sq")); (case k1 => walk_at "kit"))
  | ((with_reducible refine' g_lst ?h1 ?h2 ?_); (case h1 => assumption); (case h2 => walk_at "sz"); intro p H2 hh2)
  | ((with_reducible refine' g_tup ?h1 ?h2 ?_); (case h1 => assumption); (case h2 => walk_at "sz"); intro p H2 hh2)
  | ((with_reducible refine' g_dict ?h1 ?_); (case h1 => assumption); intro p H2 hh2)
  | ((with_reducible refine' g_listL ?h1 ?h2 ?_); (case h1 => assumption); (case h2 => walk_at "sq"); intro p H2 hh2)
  | ((with_reducible refine' g_listT ?h1 ?h2 ?_); (case h1 => assumption); (case h2 => walk_at "sq"); intro p H2 hh2)
  | ((with_reducible refine' g_tupL ?h1 ?h2 ?_); (case h1 => assumption); (case h2 => walk_at "sq"); intro p H2 hh2)
  | ((with_reducible refine' g_set ?h1 ?h2 ?h3 ?_); (case h1 => assumption); (case h2 => walk_at "pk"); (case h3 => first | rfl | assumption | exact Evl.ixN_nat (by first | omega | (simp only [List.length_cons, List.length_nil]; omega))); intro H2 hh2)
  | ((with_reducible refine' g_kbm ?h1 ?h2 ?_); (case h1 => assumption); (case h2 => walk_at "mem"))
  | ((with_reducible refine' g_kbm0 ?h1 ?h2 ?_); (case h1 => assumption); (case h2 => walk_at "mem"))
  | ((with_reducible refine' g_app ?h1 ?h2 ?h3 ?_); (case h1 => assumption); (case h2 => walk_at "pk"); (case h3 => walk_at "sz"); intro H2 hh2)
  | ((with_reducible refine' g_kapp ?h1 ?h2 ?h3 ?_); (case h1 => assumption); (case h2 => walk_at "pk"); (case h3 => walk_at "sz"); intro H2 hh2)
  | ((with_reducible refine' g_fld ?h1 ?h2 ?h3 ?h4 ?h5 ?_); (case h1 => assumption); (case h2 => walk_at "mem"); (case h3 => assumption); (case h4 => assumption); (case h5 => rfl))
  | ((with_reducible refine' g_sfld ?h1 ?h2 ?h3 ?h4 ?h5 ?_); (case h1 => assumption); (case h2 => walk_at "pk"); (case h3 => assumption); (case h4 => assumption); (case h5 => decide); intro H2 hh2)
  | ((with_reducible refine' g_meth ?h1 ?h2 ?h3 ?_); (case h1 => assumption); (case h2 => walk_at "mem"); (case h3 => rfl))
  | ((with_reducible refine' g_prop ?h1 ?h2 ?_); (case h1 => assumption); (case h2 => walk_at "mem"))
  | ((with_reducible refine' g_make ?h1 ?_); (case h1 => assumption); intro x H2 hh2)
  | ((with_reducible refine' g_cat ?h1 ?h2 ?h3 ?h4 ?_); (case h1 => assumption); (case h2 => walk_at "mem"); (case h3 => walk_at "mem"); (case h4 => walk_at "sz"); intro p H2 hh2)
  | ((with_reducible refine' g_inT ?h1 ?h2 ?h3 ?h4 ?h5 ?_); (case h1 => assumption); (case h2 => walk_at "mem"); (case h3 => rfl); (case h4 => rfl); (case h5 => rfl)))
local macro_rules | `(tactic| walk_at "gs") => `(tactic| repeat first | walk_at "s1" | walk_at "g1")
local macro_rules | `(tactic| walk_at "ite") => `(tactic| first
  | ((with_reducible refine' w_iteT ?h1 ?_); (case h1 => omega))
  | ((with_reducible refine' w_iteF ?h1 ?_); (case h1 => omega))
  | (with_reducible refine w_ite ?_ ?_ <;> intro hq)
  | ((with_reducible refine' w_iteNT ?h1 ?_); (case h1 => omega))
  | ((with_reducible refine' w_iteNF ?h1 ?_); (case h1 => omega))
  | (with_reducible refine w_iteN ?_ ?_ <;> intro hq))
local macro_rules | `(tactic| walk_at "go") => `(tactic| repeat' first | walk_at "s1" | walk_at "g1" | walk_at "ite")
section
variable {P : Program} {w : World} {K : PySem.W.Frag} {mg : Str → Option Value} {base : Heap} {aREG aOPS : Addr}
/-- what the text leaves of its errors: C is BadArgument, W is WardError -/
structure ErrC (K : PySem.W.Frag) (mg : Str → Option Value) (C W fI : Addr) : Prop where
  g_C : mg "BadArgument" = some (.ref C)
  g_W : mg "WardError" = some (.ref W)
  vErr : mg "ValueError" = none
  o : OexC K C
  x : XfC K C
  e : ExcC K C
  no : PySem.W.findIn K (.ref C) "name" = some none
  init : PySem.W.findIn K (.ref C) "__init__" = some (some (.ref fI))
  fn : PySem.W.typeIn K (.ref fI) = some (.type "function")
  wsp : PySem.W.specialIn K (.ref W) "__getattribute__" = some (some (.builtin "type.__getattribute__"))
  wr : ∃ mc, PySem.W.readsIn K W mc = true ∧ PySem.W.findCls K (.ref W) mc "__init__" = some (.val (.builtin "ValueError.__init__"))
  isW : PySem.W.kitOne K (.ref C) (.ref W) = some true
  exW : PySem.W.exmOne K (.ref C) (.ref W) = some true
  isV : PySem.W.kitOne K (.ref C) (.type "ValueError") = some true
  isC : PySem.W.kitOne K (.ref C) (.ref C) = some true
  others : ∀ x ∈ (["SourceError", "Unknown", "Taken", "NotAllowed", "WrongState", "RingOfWaits", "Full", "Stopped"] : List Str), ∃ a, mg x = some (.ref a) ∧ PySem.W.kitOne K (.ref C) (.ref a) = some false
def sp_badI (C : Addr) : Sp := fun vs H Q _ => ∃ (a : Addr) (z : Str), vs = [.ref a, .str z] ∧ z.length ≤ 1000 ∧ H a = some (exo a C none) ∧ ∀ dx, H dx = none → dx ≠ a → Q .non (upd (upd H dx (exd dx [("name", .str z)])) a (exo a C (some dx)))
theorem f_badI {CX : CXT} {C W f : Addr} {fd : FuncData} (R : ErrC K mg C W f) (d : DefM K "__init__" "BadArgument.__init__" s_BadArgument____init__ [] f fd) : FnOk P w K mg base CX 1 f fd ["self", "name"] (sp_badI C) := by
  refine FunD.ok d sc_BadArgument____init__ (fun vs H Q E h => ?_) (fun cdv A outer s H vs Q E hr h => ?_)
  · obtain ⟨a, z, rfl, _⟩ := h
    rfl
  · obtain ⟨a, z, rfl, hz, ha, q⟩ := h
    obtain ⟨mc, mr, mf⟩ := R.wr
    refine ⟨_, (pss_cons (ps_expr (pe_weinit rfl R.g_W R.wsp mr mf (pa_cons (pv 0) (pa_cons (pe_joined (.cons (pe_fmt (pv 1)) (.cons pe_str .nil))) pa_nil))))
  (pss_one (ps_ost (pv 0) (pv 1)))), ?_⟩
    walk_at "s"
    have e1 : z.length ≤ sizeLine := by rw [sizeLine_eq]; omega
    have e2 : (Str.empty ++ z).length ≤ sizeLine := by rw [Str.length_append]; rw [sizeLine_eq]; show 0 + z.length ≤ _; omega
    refine w_cons (w_var rfl (w_cons ⟨_, rfl, .inl ⟨z, rfl, e1, z, rfl, e2, _, rfl, ?_, ?_⟩⟩))
    · rw [Str.length_append, Str.length_append, sizeLine_eq]
      have e3 : (" is none of the told values" : Str).length ≤ 100 := by decide +kernel
      have e4 : Str.empty.length = 0 := rfl
      omega
    · exact ⟨a, C, _, rfl, by simp only [List.length_cons, List.length_nil]; omega, R.o, ha, _, rfl, _, rfl, a, C, rfl, R.o, R.no, .inl ⟨ha, fun dx n ne => q dx n ne⟩⟩
/-- BadArgument(z): a new dict, no more -/
theorem w_mkBad {C : Addr} {z : Str} {σ : L2.St} {H1 : Hp} {Q : XK} (hz : z.length ≤ 1000) (q : ∀ d H', New H1 H' d (.xd [("name", .str z)]) → Q (.ref C) (some d) H') : tMkO C (sp_badI C) [] (tCons (tC (.str z)) tNil) σ H1 Q := by
  refine w_cons (w_c (w_nil ⟨by simp only [List.length_cons, List.length_nil]; omega, fun a ha => ⟨a, z, rfl, hz, upd_same, fun dx n ne => ⟨rfl, dx, [("name", .str z)], upd_same, ?_, ?_, ?_⟩⟩⟩))
  · rw [upd_ne ne, upd_same]
  · rw [upd_ne ne] at n
    exact n
  · rw [made_heap ha ne]
    rw [upd_ne ne] at n
    exact q dx _ (New.of n)
theorem c_isP {D a dd : Addr} {fs : List (Str × V)} {c : V} {cv : Value} {b : Bool} {H : Hp} {Q : VK} (hd : H dd = some (.xd fs)) (hcv : ∀ u, RelV c u → u = cv) (e : PySem.W.kitOne K (.ref D) cv = some b) (q : Q (.bl b) H) : CB (rIsP K D a dd) [.ref a, c] H Q :=
  ⟨c, cv, b, fs, rfl, hcv, e, hd, q⟩
/-- _law_error of a BadArgument -/
def sp_err (C : Addr) : SpP := fun p vs H Q _ => ∃ (dd : Addr) (z : Str), vs = [.ref p.1] ∧ L2.Zc (.ref C) (some dd) p.2 ∧ (∃ us, p.2.data = .fields us) ∧ H dd = some (.xd [("name", .str z)]) ∧ ∀ t H', Upt [] H H' → H t = none → H' t = some (.tup [.str "BadArgument", .str z]) → Q (.ref t) H'
theorem e_err {C W fI f : Addr} {fd : FuncData} (T : Txt K mg aREG aOPS) (R : ErrC K mg C W fI) (d : FunT K "_law_refusal" s__law_refusal f fd) : FnE P w K mg base C8.CX0 1 f fd ["e"] (sp_err C) := by
  obtain ⟨oc, od, dV, kV, doc, pm, an, cdv, ct, osl, rfl, lk, hcd, _, _⟩ := d.ex
  obtain ⟨a1, g_SourceError, n1⟩ := R.others "SourceError" (by simp)
  obtain ⟨a2, g_Unknown, n2⟩ := R.others "Unknown" (by simp)
  obtain ⟨a3, g_Taken, n3⟩ := R.others "Taken" (by simp)
  obtain ⟨a4, g_NotAllowed, n4⟩ := R.others "NotAllowed" (by simp)
  obtain ⟨a5, g_WrongState, n5⟩ := R.others "WrongState" (by simp)
  obtain ⟨a6, g_RingOfWaits, n6⟩ := R.others "RingOfWaits" (by simp)
  obtain ⟨a7, g_Full, n7⟩ := R.others "Full" (by simp)
  obtain ⟨a8, g_Stopped, n8⟩ := R.others "Stopped" (by simp)
  replace g_SourceError : ∃ u, mg "SourceError" = some u ∧ RelV (.ref a1) u := ⟨_, g_SourceError, rfl⟩
  replace g_Unknown : ∃ u, mg "Unknown" = some u ∧ RelV (.ref a2) u := ⟨_, g_Unknown, rfl⟩
  replace g_Taken : ∃ u, mg "Taken" = some u ∧ RelV (.ref a3) u := ⟨_, g_Taken, rfl⟩
  replace g_NotAllowed : ∃ u, mg "NotAllowed" = some u ∧ RelV (.ref a4) u := ⟨_, g_NotAllowed, rfl⟩
  replace g_WrongState : ∃ u, mg "WrongState" = some u ∧ RelV (.ref a5) u := ⟨_, g_WrongState, rfl⟩
  replace g_RingOfWaits : ∃ u, mg "RingOfWaits" = some u ∧ RelV (.ref a6) u := ⟨_, g_RingOfWaits, rfl⟩
  replace g_Full : ∃ u, mg "Full" = some u ∧ RelV (.ref a7) u := ⟨_, g_Full, rfl⟩
  replace g_Stopped : ∃ u, mg "Stopped" = some u ∧ RelV (.ref a8) u := ⟨_, g_Stopped, rfl⟩
  have nAny : PySem.W.kitAny K (.ref C) ([a1, a2, a3, a4, a5, a6, a7, a8].map Value.ref) = some false := by
    simp only [List.map_cons, List.map_nil, PySem.W.kitAny, n1, n2, n3, n4, n5, n6, n7, n8]
  have g_BadArgument : ∃ u, mg "BadArgument" = some u ∧ RelV (.ref C) u := ⟨_, R.g_C, rfl⟩
  have g_WardError : ∃ u, mg "WardError" = some u ∧ RelV (.ref W) u := ⟨_, R.g_W, rfl⟩
  refine fn_ofE lk hcd sc__law_refusal (fun p vs H Q E h => ?_) (fun A outer s H vs Q E p hot hr h => ?_)
  · obtain ⟨dd, z, rfl, _⟩ := h
    rfl
  · obtain ⟨a, oe⟩ := p
    obtain ⟨dd, z, rfl, hz, hf, hd, q⟩ := h
    have hp : (a, oe) ∈ (L2H.cxH C8.CX0 P w K mg base nm__law_refusal "_law_refusal" (defScope s__law_refusal) f cdv A outer s H E (a, oe)).pn := List.mem_singleton.mpr rfl
    refine ⟨_, (pss_cons (ps_set (i := 1) sc__law_refusal.nd rfl (Or.inl rfl) (pe_lst pa_nil))
  (pss_cons (ps_if (pt_val (pe_callB (call_isP R.e hp hz hf) (by rfl) T.b_isinstance (by decide +kernel) (pa_cons (pv 0) (pa_cons (C8.pe_gc rfl g_BadArgument) pa_nil))))
    (pss_one (ps_expr (pe_bm PySem.F.plainAttrs_list PySem.F.slot_list_append PySem.F.type_list_append mt_append (pv 1) (pa_cons (pe_tup (pa_cons pe_str (pa_cons (pe_xfP R.x R.no hp hz hf (pv 0)) pa_nil))) pa_nil))))
    pss_nil)
  (pss_cons (ps_if (pt_val (pe_callB (call_isPT R.e hp hz hf) (by rfl) T.b_isinstance (by decide +kernel) (pa_cons (pv 0) (pa_cons (pe_tup (pa_cons (C8.pe_gc rfl g_SourceError) (pa_cons (C8.pe_gc rfl g_Unknown) (pa_cons (C8.pe_gc rfl g_Taken) (pa_cons (C8.pe_gc rfl g_NotAllowed) (pa_cons (C8.pe_gc rfl g_WrongState) (pa_cons (C8.pe_gc rfl g_RingOfWaits) (pa_cons (C8.pe_gc rfl g_Full) (pa_cons (C8.pe_gc rfl g_Stopped) pa_nil))))))))) pa_nil))))
    (pss_one ps_never)
    pss_nil)
  (pss_cons (ps_if (PW.pt (pw_or (pt_cmpR op_ne (pe_callB Wk.b_len (by rfl) T.b_len (by decide +kernel) (pa_cons (pv 1) pa_nil)) pe_int (nomark _)) (pw_or1 (pt_not (pt_val (pe_callB (call_isP R.e hp hz hf) (by rfl) T.b_isinstance (by decide +kernel) (pa_cons (pv 0) (pa_cons (pe_bltn (v := .ty "ValueError") (by rfl) R.vErr (by decide +kernel) rfl) pa_nil))))))))
    (pss_one ps_never)
    pss_nil)
  (pss_one (ps_ret (pe_ix ix_list (pv 1) pe_int (fun _ _ => rfl)))))))), ?_⟩
    walk_at "s"
    refine w_new (by decide) fun p2 H2 m2 => ?_
    have h2 := m2.keep.at0 hd
    walk_at "s"
    refine c_isP h2 (fun u r => r) R.isC ?_
    walk_at "s"
    refine w_kbm (ty_list (SqL.of m2.at_)) ?_
    walk_at "s"
    refine w_var rfl ⟨rfl, rfl, dd, _, .str z, rfl, h2, rfl, ?_⟩
    walk_at "s"
    refine w_new (by walk_at "sz") fun p3 H3 m3 => ?_
    walk_at "s"
    refine w_append (m3.keep.at0 m2.at_) (by decide) fun H4 g4 => ?_
    have t4 := g4.keep.at1 (m3.ne' m2.at_) m3.at_
    have d4 := g4.keep.at1 (m2.ne hd) (m3.keep.at0 h2)
    have U4 : Upt [] H H4 := Upt.chgNew (m2.keep.trans m3.keep) m2.no g4
    walk_at "s"
    refine w_new (by rw [sizeLine_eq]; simp only [List.length_cons, List.length_nil]; omega) fun p5 H5 m5 => ?_
    have d5 := m5.keep.at0 d4
    have t5 := m5.keep.at0 t4
    walk_at "s"
    refine c_isPT (cs := [a1, a2, a3, a4, a5, a6, a7, a8]) d5 (SqT.of m5.at_) nAny ?_
    walk_at "s"
    refine c_lenL (SqL.of (m5.keep.at0 g4.at_)) ?_
    walk_at "s"
    refine c_isP d5 (fun u r => by cases r; rfl) R.isV ?_
    walk_at "s"
    refine w_ixL (SqL.of (m5.keep.at0 g4.at_)) rfl ?_
    exact q p3 H5 (U4.trans m5.keep) (by
      cases e : H p3 with
      | none => rfl
      | some o => exact absurd (m2.keep.at0 e) (by rw [m3.no]; simp)) t5
/-- the same, in an except suite -/
def sp_errA (C a : Addr) (cls : Value) (d : Option Addr) : Sp := fun vs H Q _ => ∃ (dd : Addr) (z : Str), vs = [.ref a] ∧ cls = .ref C ∧ d = some dd ∧ H dd = some (.xd [("name", .str z)]) ∧ ∀ t H', Upt [] H H' → H t = none → H' t = some (.tup [.str "BadArgument", .str z]) → Q (.ref t) H'
theorem imp_err {C a : Addr} {oe : Obj} {cls : Value} {d : Option Addr} (hz : L2N.Zn cls d oe) (hf : ∃ vs, oe.data = .fields vs) : ∀ vs H Q E, sp_errA C a cls d vs H Q E → sp_err C (a, oe) vs H Q E := fun _ _ _ _ ⟨dd, z, h1, h2, h3, h4, q⟩ =>
  ⟨dd, z, h1, by subst h2 h3; exact ⟨hz.1, hz.2.1⟩, hf, h4, q⟩
theorem hot_err {A : Around} {a : Addr} {oe : Obj} {cls : Value} {d : Option Addr} (hz : L2N.Zn cls d oe) (hf : ∃ vs, oe.data = .fields vs) : L2H.Hot1 (A.mark (some (.ref a))) (a, oe) := ⟨rfl, let ⟨vs, e⟩ := hf; ⟨vs, e, hz.2.2 vs e⟩⟩
theorem rH {A : Around} {x : Option Value} {j : Nat} (hr : Room (j + 1) A) : L2H.RoomH 1 (A.mark x) := L2H.RoomH.mono (k := j + 1) ⟨hr.dp, hr.un⟩ (by omega)
end
end K46
set_option Elab.async false
set_option linter.all false
set_option maxRecDepth 100000
set_option maxHeartbeats 4000000
namespace K46
open PySem PySem.Spec PyProof.Rows L2 Wk
local macro_rules | `(tactic| walk_at "u1") => `(tactic| fail "no more")
local macro_rules | `(tactic| walk_at "pos") => `(tactic| first | assumption | omega | decide | (simp only [Int.ofNat_eq_natCast] at *; omega))
local macro_rules | `(tactic| walk_at "sz") => `(tactic| first
  | (simp only [List.length_cons, List.length_nil]; decide)
  | exact Evl.sz_of (by omega)
  | exact Evl.sz_lt (by omega)
  | exact Evl.sz_of (by simp only [List.length_map, List.length_append, List.length_cons, List.length_nil, List.length_replicate]; omega)
  | exact Evl.sz_lt (by simp only [List.length_map, List.length_append, List.length_cons, List.length_nil, List.length_replicate]; omega))
local macro_rules | `(tactic| walk_at "cond") => `(tactic| first
  | exact Or.inr ⟨by decide, by decide⟩
  | (show (0 : Int) < _; first | decide | assumption | omega)
  | exact Or.inl ⟨by omega, by omega⟩
  | exact Or.inr ⟨by omega, by omega⟩
  | exact ⟨by decide, by decide, by decide⟩
  | exact log2_lt (by omega) (by omega)
  | exact ⟨by omega, by omega⟩)
local macro_rules | `(tactic| walk_at "ty") => `(tactic| first
  | exact ty_int | exact ty_bl | exact ty_str | exact ty_non
  | exact ty_L (by assumption) | exact ty_T (by assumption)
  | exact ty_L (SqL.of (by assumption)) | exact ty_T (SqT.of (by assumption)))
local macro_rules | `(tactic| walk_at "kit") => `(tactic| first
  | exact k_ii | exact k_ib | exact k_is | exact k_il | exact k_it
  | exact k_bb | exact k_bi | exact k_bs | exact k_bl | exact k_bt
  | exact k_ss | exact k_sb | exact k_si | exact k_sl | exact k_st
  | exact k_ll | exact k_lb | exact k_li | exact k_ls | exact k_lt
  | exact k_tt | exact k_tb | exact k_ti | exact k_ts | exact k_tl
  | exact k_nn | exact k_ni | exact k_ns | exact k_nl | exact k_nt)
local macro_rules | `(tactic| walk_at "s1") => `(tactic| first
  | with_reducible refine w_seq ?_
  | with_reducible refine w_set ?_
  | with_reducible refine w_op ?_
  | ((with_reducible refine' w_var ?h1 ?_); (case h1 => rfl))
  | with_reducible refine w_c ?_
  | with_reducible refine w_cb ?_
  | with_reducible refine w_cons ?_
  | with_reducible refine w_nil ?_
  | with_reducible refine w_I0 ?_
  | ((with_reducible refine' w_I ?c1 ?_); case c1 => walk_at "cond")
  | with_reducible refine w_ret ?_
  | with_reducible refine w_next ?_
  | with_reducible refine w_ifS ?_
  | with_reducible refine w_test ?_
  | with_reducible refine w_tB ?_
  | with_reducible refine w_k ?_
  | with_reducible refine w_eqI ?_
  | with_reducible refine w_neI ?_
  | with_reducible refine w_eqS ?_
  | with_reducible refine w_neS ?_
  | with_reducible refine w_and ?_
  | with_reducible refine w_or ?_
  | with_reducible refine w_not ?_
  | with_reducible refine w_andV ?_
  | with_reducible refine w_orV ?_
  | with_reducible refine w_notV ?_
  | with_reducible refine w_ifE ?_
  | with_reducible refine w_true ?_
  | with_reducible refine w_false ?_
  | with_reducible refine w_ntrue ?_
  | with_reducible refine w_nfalse ?_
  | with_reducible refine w_call ?_
  | with_reducible refine c_int ?_
  | with_reducible refine c_abs ?_
  | with_reducible refine c_max ?_
  | with_reducible refine c_min ?_
  | with_reducible refine w_drop ?_
  | with_reducible refine w_sfld ?_
  | with_reducible refine w_meth ?_
  | with_reducible refine w_make ?_
  | with_reducible refine w_prop ?_
  | with_reducible refine w_callK ?_
  | with_reducible refine w_callN ?_
  | with_reducible refine w_star ?_
  | with_reducible refine w_gcons ?_
  | with_reducible refine w_gname ?_
  | with_reducible refine w_gnil ?_
  | with_reducible refine w_retN ?_
  | with_reducible refine w_tup ?_
  | with_reducible refine w_lst ?_
  | with_reducible refine w_fld ?_
  | with_reducible refine w_bm ?_
  | with_reducible refine w_bm0 ?_
  | with_reducible refine w_forL ?_
  | with_reducible refine w_forT ?_
  | with_reducible refine w_forS ?_
  | with_reducible refine w_forR ?_
  | with_reducible refine w_lcR ?_
  | with_reducible refine w_lcL ?_
  | with_reducible refine w_lcT ?_
  | with_reducible refine w_isN ?_
  | with_reducible refine w_notN ?_
  | with_reducible refine w_asg ?_
  | with_reducible refine w_gsub ?_
  | ((with_reducible refine' w_aug ?h1 ?_); (case h1 => rfl))
  | with_reducible refine w_augS ?_
  | with_reducible refine w_ipI ?_
  | with_reducible refine w_un ?_
  | with_reducible refine w_U ?_
  | ((with_reducible refine' w_iteF ?f1 ?_); case f1 => (first | (intro h; cases h; done) | decide))
  | ((with_reducible refine' w_iteT ?f1 ?_); case f1 => rfl)
  | ((with_reducible refine' w_iteNF ?f1 ?_); case f1 => rfl)
  | ((with_reducible refine' w_iteNT ?f1 ?_); case f1 => (first | (intro h; cases h; done) | decide))
  | ((with_reducible refine' c_isi ?t1 ?k1 ?_); (case t1 => walk_at "ty"); (case k1 => walk_at "kit"))
  | ((with_reducible refine' w_eq ?e1 ?_); case e1 => rfl)
  | ((with_reducible refine' w_ne ?e1 ?_); case e1 => rfl)
  | walk_at "u1")
local macro_rules | `(tactic| walk_at "s") => `(tactic| repeat walk_at "s1")
local macro_rules | `(tactic| walk_at "mem") => `(tactic| first | with_reducible exact List.mem_cons_self .. | ((with_reducible refine' List.mem_cons_of_mem _ ?q); (case q => walk_at "mem")) | assumption | ((with_reducible refine' List.mem_append_right _ ?q); (case q => walk_at "mem")) | (exact List.mem_append_left _ (by assumption)))
local macro_rules | `(tactic| walk_at "pk") => `(tactic| first | with_reducible exact Pk.here | ((with_reducible refine' Pk.there ?q); (case q => walk_at "pk")) | ((with_reducible refine' Pk.app ?q); (case q => walk_at "pk")))
local macro_rules | `(tactic| walk_at "pkb") => `(tactic| first | with_reducible exact PkB.here | ((with_reducible refine' PkB.there ?q); (case q => walk_at "pkb")) | ((with_reducible refine' PkB.app ?q); (case q => walk_at "pkb")))
local macro_rules | `(tactic| walk_at "spl") => `(tactic| first | with_reducible exact Spl.nil | ((with_reducible refine' Spl.cons ?h ?t); (case h => walk_at "pk"); (case t => walk_at "spl")) | ((with_reducible refine' Spl.blk ?h ?t); (case h => walk_at "pkb"); (case t => walk_at "spl")))
local macro_rules | `(tactic| walk_at "sbx") => `(tactic| first | with_reducible exact Sb.refl | with_reducible exact Sb.nil | with_reducible exact Sb.left | ((with_reducible refine' Sb.cons ?h ?t); (case h => walk_at "pk"); (case t => walk_at "sbx")) | ((with_reducible refine' Sb.blk ?h ?t); (case h => walk_at "pkb"); (case t => walk_at "sbx")) | ((with_reducible refine' Sb.drop ?q); (case q => walk_at "sbx")) | ((with_reducible refine' Sb.right ?q); (case q => walk_at "sbx")))
local macro_rules | `(tactic| walk_at "hd") => `(tactic| first | assumption | exact Hd.sb (by assumption) (by walk_at "sbx"))
local macro_rules | `(tactic| walk_at "sq") => `(tactic| first
  | assumption
  | exact Hd.sqL (by assumption) (by walk_at "mem")
  | exact Hd.sqT (by assumption) (by walk_at "mem")
  | exact Hd.sqF (by assumption) (by walk_at "mem")
  | (refine .inl ?_; walk_at "sq")
  | (refine .inr ?_; walk_at "sq"))
local macro_rules | `(tactic| walk_at "at") => `(tactic| first | rfl | assumption | exact atI_nat (by assumption))
local macro_rules | `(tactic| walk_at "dn1") => `(tactic| first
  | exact Dn.int | exact Dn.str | exact Dn.non | exact Dn.bl | assumption
  | ((refine' Dn.tp ?a1 ?m1 ?l1 ?p1); (case a1 => assumption); (case m1 => walk_at "mem"); (case l1 => (simp only [List.length_cons, List.length_nil]; omega)); (case p1 => walk_at "dns"))
  | ((refine' Dn.lt ?a1 ?m1 ?l1 ?p1); (case a1 => assumption); (case m1 => walk_at "mem"); (case l1 => (simp only [List.length_cons, List.length_nil]; omega)); (case p1 => walk_at "dns")))
local macro_rules | `(tactic| walk_at "dns") => `(tactic| first | exact Paired.nil | exact Dn.ints | ((refine' Paired.cons ?a1 ?b1); (case a1 => walk_at "dn1"); (case b1 => walk_at "dns")))
local macro_rules | `(tactic| walk_at "g1") => `(tactic| first
  | ((with_reducible refine' g_ixI ?h1 ?h2 ?h3 ?_); (case h1 => assumption); (case h2 => walk_at "mem"); (case h3 => omega); intro z hz)
  | ((with_reducible refine' g_ixIT ?h1 ?h2 ?h3 ?_); (case h1 => assumption); (case h2 => walk_at "mem"); (case h3 => omega); intro z hz)
  | ((with_reducible refine' g_setI ?h1 ?h2 ?h3 ?_); (case h1 => assumption); (case h2 => walk_at "pk"); (case h3 => omega); intro H2 hh2)
  | ((with_reducible refine' w_ixL ?h1 ?h2 ?_); (case h1 => walk_at "sq"); (case h2 => walk_at "at"))
  | ((with_reducible refine' w_ixT ?h1 ?h2 ?_); (case h1 => walk_at "sq"); (case h2 => walk_at "at"))
  | ((with_reducible refine' w_ixAny ?h1 ?h2 ?_); (case h1 => walk_at "sq"); (case h2 => walk_at "at"))
  | ((with_reducible refine' c_lenA ?h1 ?_); (case h1 => walk_at "sq"))
  | ((with_reducible refine' c_isi ?t1 ?k1 ?_); (case t1 => first | exact ty_T (by walk_at "sq") | exact ty_L (by walk_at "sq")); (case k1 => walk_at "kit"))
  | ((with_reducible refine' g_lst ?h1 ?h2 ?_); (case h1 => assumption); (case h2 => walk_at "sz"); intro p H2 hh2)
  | ((with_reducible refine' g_tup ?h1 ?h2 ?_); (case h1 => assumption); (case h2 => walk_at "sz"); intro p H2 hh2)
  | ((with_reducible refine' g_dict ?h1 ?_); (case h1 => assumption); intro p H2 hh2)
  | ((with_reducible refine' g_listL ?h1 ?h2 ?_); (case h1 => assumption); (case h2 => walk_at "sq"); intro p H2 hh2)
  | ((with_reducible refine' g_listT ?h1 ?h2 ?_); (case h1 => assumption); (case h2 => walk_at "sq"); intro p H2 hh2)
  | ((with_reducible refine' g_tupL ?h1 ?h2 ?_); (case h1 => assumption); (case h2 => walk_at "sq"); intro p H2 hh2)
  | ((with_reducible refine' g_set ?h1 ?h2 ?h3 ?_); (case h1 => assumption); (case h2 => walk_at "pk"); (case h3 => first | rfl | assumption | exact Evl.ixN_nat (by first | omega | (simp only [List.length_cons, List.length_nil]; omega))); intro H2 hh2)
  | ((with_reducible refine' g_kbm ?h1 ?h2 ?_); (case h1 => assumption); (case h2 => walk_at "mem"))
  | ((with_reducible refine' g_kbm0 ?h1 ?h2 ?_); (case h1 => assumption); (case h2 => walk_at "mem"))
  | ((with_reducible refine' g_app ?h1 ?h2 ?h3 ?_); (case h1 => assumption); (case h2 => walk_at "pk"); (case h3 => walk_at "sz"); intro H2 hh2)
  | ((with_reducible refine' g_kapp ?h1 ?h2 ?h3 ?_); (case h1 => assumption); (case h2 => walk_at "pk"); (case h3 => walk_at "sz"); intro H2 hh2)
  | ((with_reducible refine' g_fld ?h1 ?h2 ?h3 ?h4 ?h5 ?_); (case h1 => assumption); (case h2 => walk_at "mem"); (case h3 => assumption); (case h4 => assumption); (case h5 => rfl))
  | ((with_reducible refine' g_sfld ?h1 ?h2 ?h3 ?h4 ?h5 ?_); (case h1 => assumption); (case h2 => walk_at "pk"); (case h3 => assumption); (case h4 => assumption); (case h5 => decide); intro H2 hh2)
  | ((with_reducible refine' g_meth ?h1 ?h2 ?h3 ?_); (case h1 => assumption); (case h2 => walk_at "mem"); (case h3 => rfl))
  | ((with_reducible refine' g_prop ?h1 ?h2 ?_); (case h1 => assumption); (case h2 => walk_at "mem"))
  | ((with_reducible refine' g_make ?h1 ?_); (case h1 => assumption); intro x H2 hh2)
  | ((with_reducible refine' g_cat ?h1 ?h2 ?h3 ?h4 ?_); (case h1 => assumption); (case h2 => walk_at "mem"); (case h3 => walk_at "mem"); (case h4 => walk_at "sz"); intro p H2 hh2)
  | ((with_reducible refine' g_inT ?h1 ?h2 ?h3 ?h4 ?h5 ?_); (case h1 => assumption); (case h2 => walk_at "mem"); (case h3 => rfl); (case h4 => rfl); (case h5 => rfl)))
local macro_rules | `(tactic| walk_at "gs") => `(tactic| repeat first | walk_at "s1" | walk_at "g1")
local macro_rules | `(tactic| walk_at "ite") => `(tactic| first
  | ((with_reducible refine' w_iteT ?h1 ?_); (case h1 => omega))
  | ((with_reducible refine' w_iteF ?h1 ?_); (case h1 => omega))
  | (with_reducible refine w_ite ?_ ?_ <;> intro hq)
  | ((with_reducible refine' w_iteNT ?h1 ?_); (case h1 => omega))
  | ((with_reducible refine' w_iteNF ?h1 ?_); (case h1 => omega))
  | (with_reducible refine w_iteN ?_ ?_ <;> intro hq))
local macro_rules | `(tactic| walk_at "go") => `(tactic| repeat' first | walk_at "s1" | walk_at "g1" | walk_at "ite")
local macro_rules | `(tactic| walk_at "g1") => `(tactic| first
  | ((with_reducible refine' g_take1 ?h1 ?h2 ?h3 ?h4 ?_); (case h1 => assumption); (case h2 => walk_at "spl"); (case h3 => omega); (case h4 => omega); intro k H2 hk1 hh2)
  | ((with_reducible refine' g_take ?h1 ?h2 ?h4 ?_); (case h1 => assumption); (case h2 => walk_at "spl"); (case h4 => omega); intro k H2 hk1 hh2)
  | ((with_reducible refine' g_betweenN ?h1 ?h2 ?h5 ?h3 ?h4 ?_); (case h1 => assumption); (case h2 => walk_at "spl"); (case h5 => omega); (case h3 => omega); (case h4 => omega); intro k H2 hk1 hk2 hh2)
  | ((with_reducible refine' g_between ?h1 ?h2 ?h3 ?h4 ?_); (case h1 => assumption); (case h2 => walk_at "spl"); (case h3 => omega); (case h4 => omega); intro k H2 hk1 hk2 hh2)
  | ((with_reducible refine' g_size ?h1 ?h2 ?h3 ?h4 ?_); (case h1 => assumption); (case h2 => walk_at "spl"); (case h3 => omega); (case h4 => omega); intro k H2 hk1 hh2)
  | ((with_reducible refine' g_word ?h1 ?h2 ?_); (case h1 => assumption); (case h2 => walk_at "spl"); intro k H2 hk1 hh2))
local macro_rules | `(tactic| walk_at "g1") => `(tactic| first | with_reducible refine w_sl ?_ | with_reducible refine w_part ?_ | with_reducible refine w_noPart ?_ | with_reducible refine w_exI ?_)
section
variable {P : Program} {w : World} {K : PySem.W.Frag} {mg : Str → Option Value} {base : Heap} {aREG aOPS : Addr}
/-! ### what pack_letter and unpack_letters refuse -/
theorem dn_kh {H : Hp} {v : V} {d : PyData} : ∀ {n : Nat}, Dn K [] H n v d → ∃ t, KH K H v t
  | 0, h => by cases h <;> exact ⟨_, by constructor⟩
  | n + 1, h => by
    rcases h with h | ⟨a, xs, ds, e1, e2, ha, hq, hl, p⟩ | ⟨a, xs, ds, e1, e2, ha, hq, hl, p⟩
    · cases h <;> exact ⟨_, by constructor⟩
    · subst e1; exact ⟨_, .lst hq⟩
    · subst e1; exact ⟨_, .tup hq⟩
/-- v is no list of at most mx words -/
def BadWm (K : PySem.W.Frag) (mx : Nat) (H : Hp) (v : V) : Prop := (∃ t, TyX K H v (.type t) ∧ kitB t "list" = some false) ∨ ∃ (a : Addr) (xs : List V), v = .ref a ∧ SqL K H a xs ∧ (mx < xs.length ∨ (xs.all isW = false ∧ ∀ v ∈ xs, ∃ t, KH K H v t))
def sp_islF (K : PySem.W.Frag) (tP : Addr) : Sp := fun vs H Q _ => ∃ (v : V) (mx : Nat), vs = [v, .int 0, .int mx] ∧ BadWm K mx H v ∧ GxR.TabG H tP ∧ ∀ H', GxR.TabG H' tP → Upt [tP] H H' → Q (.bl false) H'
theorem c_islF {tP : Addr} (T : Txt K mg aREG aOPS) (d : DefAt K mg "is_list_of_words" s_is_list_of_words) (c_are_words : C8.Cal P w K mg base 4 "are_words" (sp_words K tP) []) : C8.Cal P w K mg base 5 "is_list_of_words" (sp_islF K tP) [] := by
  refine mk d sc_is_list_of_words (fun _ _ _ _ _ _ us hl => match us, hl with | [_, _, _], _ => rfl) (fun vs H Q E h => ?_) (fun f cdv A outer s H vs Q E hr h => ?_)
  · obtain ⟨v, mx, rfl, _⟩ := h
    rfl
  · obtain ⟨v, mx, rfl, hb, hT, q⟩ := h
    refine ⟨_, (pss_one (ps_ret (pe_and (pe_callB call_isi (by rfl) T.b_isinstance (by decide +kernel) (pa_cons (pv 0) (pa_cons (pe_bltn (v := .ty "list") (by rfl) T.b_list (by decide +kernel) rfl) pa_nil))) (pe_and (pe_chain op_le op_le (pv 1) (pe_callB Wk.b_len (by rfl) T.b_len (by decide +kernel) (pa_cons (pv 0) pa_nil)) (pv 2)) (pe_one (C8.pe_c c_are_words hr (by first | decide | omega) rfl (pa_cons (pv 0) pa_nil))))))), ?_⟩
    rcases hb with ⟨t, ty, kt⟩ | ⟨a, xs, rfl, hq, hx⟩
    · walk_at "s"
      refine c_isi ty kt ?_
      walk_at "s"
      exact q H hT (Upt.refl H)
    · walk_at "s"
      show tChain _ _ _ _ _ _ _ _
      refine ⟨_, rfl, ?_⟩
      walk_at "s"
      refine c_lenL hq ?_
      walk_at "s"
      rw [if_pos (decide_eq_true (by omega))]
      refine ⟨_, rfl, _, _, rfl, rfl, _, rfl, ?_⟩
      by_cases hl : (xs.length : Int) ≤ (mx : Int)
      · rw [if_pos (decide_eq_true hl)]
        walk_at "s"
        obtain ⟨ha, hk⟩ := hx.resolve_left (by omega)
        exact u_words (.inl hq) hk hT ha fun H' h1 h2 => q H' h1 h2
      · rw [decide_eq_false hl]
        exact q H hT (Upt.refl H)
/-- ask_words -/
def sp_askWX (K : PySem.W.Frag) (C tP : Addr) : Sp := fun vs H Q E => ∃ (z : Str) (v : V) (mx : Nat), vs = [.str z, v, .int 0, .int mx] ∧ z.length ≤ 1000 ∧ BadWm K mx H v ∧ GxR.TabG H tP ∧ ∀ H1 H' d, GxR.TabG H1 tP → Upt [tP] H H1 → New H1 H' d (.xd [("name", .str z)]) → E (.ref C) (some d) H'
/-- BadArgument(x): a new dict, no more -/
theorem w_mkBadV {C : Addr} {z : Str} {i : Nat} {σ : L2.St} {H1 : Hp} {Q : XK} (hv : σ[i]? = some (some (.str z))) (hz : z.length ≤ 1000) (q : ∀ d H', New H1 H' d (.xd [("name", .str z)]) → Q (.ref C) (some d) H') : tMkO C (sp_badI C) [] (tCons (tVar i) tNil) σ H1 Q := by
  refine w_cons (w_var hv (w_nil ⟨by simp only [List.length_cons, List.length_nil]; omega, fun a ha => ⟨a, z, rfl, hz, upd_same, fun dx n ne => ⟨rfl, dx, [("name", .str z)], upd_same, ?_, ?_, ?_⟩⟩⟩))
  · rw [upd_ne ne, upd_same]
  · rw [upd_ne ne] at n
    exact n
  · rw [made_heap ha ne]
    rw [upd_ne ne] at n
    exact q dx _ (New.of n)
theorem x_askW {tP C W fI : Addr} {fdI : FuncData} (T : Txt K mg aREG aOPS) (R : ErrC K mg C W fI) (dI : DefM K "__init__" "BadArgument.__init__" s_BadArgument____init__ [] fI fdI) (d : DefAt K mg "ask_words" s_ask_words)
    (c_is_list_of_words : C8.Cal P w K mg base 5 "is_list_of_words" (sp_islF K tP) []) : CalN P w K mg base 6 "ask_words" (sp_askWX K C tP) := by
  obtain ⟨f, fd, F, hm⟩ := d
  have bI : Binds K fdI ["self", "name"] [] := FunD.bindsN dI fun _ _ _ _ _ _ us hl => match us, hl with | [_, _], _ => rfl
  refine ⟨f, fd, ["name", "words", "least", "most"], FunD.ok F sc_ask_words (fun vs H Q E h => ?_) (fun cdv A outer s H vs Q E hr h => ?_), hm, F.kp, FunD.bindsN F fun _ _ _ _ _ _ us hl => match us, hl with | [_, _, _, _], _ => rfl⟩
  · obtain ⟨z, v, mx, rfl, _⟩ := h
    rfl
  · obtain ⟨z, v, mx, rfl, hz, hb, hT, q⟩ := h
    have F_init := f_badI (P := P) (w := w) (base := base) (CX := L2N.CX P w) R dI
    have tk := L2N.takes_of (X := cxOf (L2N.CX P w) P w K mg base nm_ask_words "ask_words" (defScope s_ask_words) f cdv A outer s H E) (E := E) rfl rfl rfl rfl
    refine ⟨_, (pss_one (ps_if (pt_not (pt_val (C8.pe_c c_is_list_of_words hr (by first | decide | omega) rfl (pa_cons (pv 1) (pa_cons (pv 2) (pa_cons (pv 3) pa_nil))))))
    (pss_one (L2N.ps_raise rfl tk (pmk_oexN R.o R.init R.fn F_init (hr.mono (by omega)) bI .nil passN rfl R.g_C (pa_cons (pv 0) pa_nil))))
    pss_nil)), ?_⟩
    walk_at "s"
    refine ⟨v, mx, rfl, hb, hT, fun H1 hT1 u1 => ?_⟩
    walk_at "s"
    exact w_mkBadV rfl hz fun d H' n => q H1 H' d hT1 u1 n
def sp_packX (K : PySem.W.Frag) (C tP : Addr) : Sp := fun vs H Q E => ∃ v : V, vs = [v] ∧ BadWm K 7 H v ∧ GxR.TabG H tP ∧ ∀ H1 H' d, GxR.TabG H1 tP → Upt [tP] H H1 → New H1 H' d (.xd [("name", .str "letter")]) → E (.ref C) (some d) H'
theorem x_pack {tP C : Addr} (T : Txt K mg aREG aOPS) (d : DefAt K mg "pack_letter" s_pack_letter) (cw : CalN P w K mg base 6 "ask_words" (sp_askWX K C tP)) : CalKN P w K mg base 7 "pack_letter" (sp_packX K C tP) 0 ["letter"] (fun _ zs => zs) := by
  obtain ⟨f, fd, F, hm⟩ := d
  refine ⟨f, fd, ["letter"], fun _ ws => ws, FunD.ok F sc_pack_letter (fun vs H Q E h => ?_) (fun cdv A outer s H vs Q E hr h => ?_), hm, F.kp, kbn0 F (fun _ r => r) fun _ _ _ _ _ _ us ws h1 h2 => match us, ws, h1, h2 with | [], [_], _, _ => rfl⟩
  · obtain ⟨v, rfl, _⟩ := h
    rfl
  · obtain ⟨v, rfl, hb, hT, q⟩ := h
    have tk := L2N.takes_of (X := cxOf (L2N.CX P w) P w K mg base nm_pack_letter "pack_letter" (defScope s_pack_letter) f cdv A outer s H E) (E := E) rfl rfl rfl rfl
    refine ⟨_, pss_cons (ps_expr (pe_cN cw hr (by decide) tk rfl (pa_cons pe_str (pa_cons (pv 0) (pa_cons pe_int (pa_cons pe_int pa_nil)))))) pss_never, ?_⟩
    walk_at "s"
    unfold tCallS
    walk_at "s"
    exact ⟨"letter", v, 7, rfl, by decide +kernel, hb, hT, q⟩
end
end K46
set_option Elab.async false
set_option linter.all false
set_option maxRecDepth 100000
set_option maxHeartbeats 4000000
namespace K46
open PySem PySem.Spec PyProof.Rows L2 Wk
local macro_rules | `(tactic| walk_at "u1") => `(tactic| fail "no more")
local macro_rules | `(tactic| walk_at "pos") => `(tactic| first | assumption | omega | decide | (simp only [Int.ofNat_eq_natCast] at *; omega))
local macro_rules | `(tactic| walk_at "sz") => `(tactic| first
  | (simp only [List.length_cons, List.length_nil]; decide)
  | exact Evl.sz_of (by omega)
  | exact Evl.sz_lt (by omega)
  | exact Evl.sz_of (by simp only [List.length_map, List.length_append, List.length_cons, List.length_nil, List.length_replicate]; omega)
  | exact Evl.sz_lt (by simp only [List.length_map, List.length_append, List.length_cons, List.length_nil, List.length_replicate]; omega))
local macro_rules | `(tactic| walk_at "cond") => `(tactic| first
  | exact Or.inr ⟨by decide, by decide⟩
  | (show (0 : Int) < _; first | decide | assumption | omega)
  | exact Or.inl ⟨by omega, by omega⟩
  | exact Or.inr ⟨by omega, by omega⟩
  | exact ⟨by decide, by decide, by decide⟩
  | exact log2_lt (by omega) (by omega)
  | exact ⟨by omega, by omega⟩)
local macro_rules | `(tactic| walk_at "ty") => `(tactic| first
  | exact ty_int | exact ty_bl | exact ty_str | exact ty_non
  | exact ty_L (by assumption) | exact ty_T (by assumption)
  | exact ty_L (SqL.of (by assumption)) | exact ty_T (SqT.of (by assumption)))
local macro_rules | `(tactic| walk_at "kit") => `(tactic| first
  | exact k_ii | exact k_ib | exact k_is | exact k_il | exact k_it
  | exact k_bb | exact k_bi | exact k_bs | exact k_bl | exact k_bt
  | exact k_ss | exact k_sb | exact k_si | exact k_sl | exact k_st
  | exact k_ll | exact k_lb | exact k_li | exact k_ls | exact k_lt
  | exact k_tt | exact k_tb | exact k_ti | exact k_ts | exact k_tl
  | exact k_nn | exact k_ni | exact k_ns | exact k_nl | exact k_nt)
local macro_rules | `(tactic| walk_at "s1") => `(tactic| first
  | with_reducible refine w_seq ?_
  | with_reducible refine w_set ?_
  | with_reducible refine w_op ?_
  | ((with_reducible refine' w_var ?h1 ?_); (case h1 => rfl))
  | with_reducible refine w_c ?_
  | with_reducible refine w_cb ?_
  | with_reducible refine w_cons ?_
  | with_reducible refine w_nil ?_
  | with_reducible refine w_I0 ?_
  | ((with_reducible refine' w_I ?c1 ?_); case c1 => walk_at "cond")
  | with_reducible refine w_ret ?_
  | with_reducible refine w_next ?_
  | with_reducible refine w_ifS ?_
  | with_reducible refine w_test ?_
  | with_reducible refine w_tB ?_
  | with_reducible refine w_k ?_
  | with_reducible refine w_eqI ?_
  | with_reducible refine w_neI ?_
  | with_reducible refine w_eqS ?_
  | with_reducible refine w_neS ?_
  | with_reducible refine w_and ?_
  | with_reducible refine w_or ?_
  | with_reducible refine w_not ?_
  | with_reducible refine w_andV ?_
  | with_reducible refine w_orV ?_
  | with_reducible refine w_notV ?_
  | with_reducible refine w_ifE ?_
  | with_reducible refine w_true ?_
  | with_reducible refine w_false ?_
  | with_reducible refine w_ntrue ?_
  | with_reducible refine w_nfalse ?_
  | with_reducible refine w_call ?_
  | with_reducible refine c_int ?_
  | with_reducible refine c_abs ?_
  | with_reducible refine c_max ?_
  | with_reducible refine c_min ?_
  | with_reducible refine w_drop ?_
  | with_reducible refine w_sfld ?_
  | with_reducible refine w_meth ?_
  | with_reducible refine w_make ?_
  | with_reducible refine w_prop ?_
  | with_reducible refine w_callK ?_
  | with_reducible refine w_callN ?_
  | with_reducible refine w_star ?_
  | with_reducible refine w_gcons ?_
  | with_reducible refine w_gname ?_
  | with_reducible refine w_gnil ?_
  | with_reducible refine w_retN ?_
  | with_reducible refine w_tup ?_
  | with_reducible refine w_lst ?_
  | with_reducible refine w_fld ?_
  | with_reducible refine w_bm ?_
  | with_reducible refine w_bm0 ?_
  | with_reducible refine w_forL ?_
  | with_reducible refine w_forT ?_
  | with_reducible refine w_forS ?_
  | with_reducible refine w_forR ?_
  | with_reducible refine w_lcR ?_
  | with_reducible refine w_lcL ?_
  | with_reducible refine w_lcT ?_
  | with_reducible refine w_isN ?_
  | with_reducible refine w_notN ?_
  | with_reducible refine w_asg ?_
  | with_reducible refine w_gsub ?_
  | ((with_reducible refine' w_aug ?h1 ?_); (case h1 => rfl))
  | with_reducible refine w_augS ?_
  | with_reducible refine w_ipI ?_
  | with_reducible refine w_un ?_
  | with_reducible refine w_U ?_
  | ((with_reducible refine' w_iteF ?f1 ?_); case f1 => (first | (intro h; cases h; done) | decide))
  | ((with_reducible refine' w_iteT ?f1 ?_); case f1 => rfl)
  | ((with_reducible refine' w_iteNF ?f1 ?_); case f1 => rfl)
  | ((with_reducible refine' w_iteNT ?f1 ?_); case f1 => (first | (intro h; cases h; done) | decide))
  | ((with_reducible refine' c_isi ?t1 ?k1 ?_); (case t1 => walk_at "ty"); (case k1 => walk_at "kit"))
  | ((with_reducible refine' w_eq ?e1 ?_); case e1 => rfl)
  | ((with_reducible refine' w_ne ?e1 ?_); case e1 => rfl)
  | walk_at "u1")
local macro_rules | `(tactic| walk_at "s") => `(tactic| repeat walk_at "s1")
local macro_rules | `(tactic| walk_at "mem") => `(tactic| first | with_reducible exact List.mem_cons_self .. | ((with_reducible refine' List.mem_cons_of_mem _ ?q); (case q => walk_at "mem")) | assumption | ((with_reducible refine' List.mem_append_right _ ?q); (case q => walk_at "mem")) | (exact List.mem_append_left _ (by assumption)))
local macro_rules | `(tactic| walk_at "pk") => `(tactic| first | with_reducible exact Pk.here | ((with_reducible refine' Pk.there ?q); (case q => walk_at "pk")) | ((with_reducible refine' Pk.app ?q); (case q => walk_at "pk")))
local macro_rules | `(tactic| walk_at "pkb") => `(tactic| first | with_reducible exact PkB.here | ((with_reducible refine' PkB.there ?q); (case q => walk_at "pkb")) | ((with_reducible refine' PkB.app ?q); (case q => walk_at "pkb")))
local macro_rules | `(tactic| walk_at "spl") => `(tactic| first | with_reducible exact Spl.nil | ((with_reducible refine' Spl.cons ?h ?t); (case h => walk_at "pk"); (case t => walk_at "spl")) | ((with_reducible refine' Spl.blk ?h ?t); (case h => walk_at "pkb"); (case t => walk_at "spl")))
local macro_rules | `(tactic| walk_at "sbx") => `(tactic| first | with_reducible exact Sb.refl | with_reducible exact Sb.nil | with_reducible exact Sb.left | ((with_reducible refine' Sb.cons ?h ?t); (case h => walk_at "pk"); (case t => walk_at "sbx")) | ((with_reducible refine' Sb.blk ?h ?t); (case h => walk_at "pkb"); (case t => walk_at "sbx")) | ((with_reducible refine' Sb.drop ?q); (case q => walk_at "sbx")) | ((with_reducible refine' Sb.right ?q); (case q => walk_at "sbx")))
local macro_rules | `(tactic| walk_at "hd") => `(tactic| first | assumption | exact Hd.sb (by assumption) (by walk_at "sbx"))
local macro_rules | `(tactic| walk_at "sq") => `(tactic| first
  | assumption
  | exact Hd.sqL (by assumption) (by walk_at "mem")
  | exact Hd.sqT (by assumption) (by walk_at "mem")
  | exact Hd.sqF (by assumption) (by walk_at "mem")
  | (refine .inl ?_; walk_at "sq")
  | (refine .inr ?_; walk_at "sq"))
local macro_rules | `(tactic| walk_at "at") => `(tactic| first | rfl | assumption | exact atI_nat (by assumption))
local macro_rules | `(tactic| walk_at "dn1") => `(tactic| first
  | exact Dn.int | exact Dn.str | exact Dn.non | exact Dn.bl | assumption
  | ((refine' Dn.tp ?a1 ?m1 ?l1 ?p1); (case a1 => assumption); (case m1 => walk_at "mem"); (case l1 => (simp only [List.length_cons, List.length_nil]; omega)); (case p1 => walk_at "dns"))
  | ((refine' Dn.lt ?a1 ?m1 ?l1 ?p1); (case a1 => assumption); (case m1 => walk_at "mem"); (case l1 => (simp only [List.length_cons, List.length_nil]; omega)); (case p1 => walk_at "dns")))
local macro_rules | `(tactic| walk_at "dns") => `(tactic| first | exact Paired.nil | exact Dn.ints | ((refine' Paired.cons ?a1 ?b1); (case a1 => walk_at "dn1"); (case b1 => walk_at "dns")))
local macro_rules | `(tactic| walk_at "g1") => `(tactic| first
  | ((with_reducible refine' g_ixI ?h1 ?h2 ?h3 ?_); (case h1 => assumption); (case h2 => walk_at "mem"); (case h3 => omega); intro z hz)
  | ((with_reducible refine' g_ixIT ?h1 ?h2 ?h3 ?_); (case h1 => assumption); (case h2 => walk_at "mem"); (case h3 => omega); intro z hz)
  | ((with_reducible refine' g_setI ?h1 ?h2 ?h3 ?_); (case h1 => assumption); (case h2 => walk_at "pk"); (case h3 => omega); intro H2 hh2)
  | ((with_reducible refine' w_ixL ?h1 ?h2 ?_); (case h1 => walk_at "sq"); (case h2 => walk_at "at"))
  | ((with_reducible refine' w_ixT ?h1 ?h2 ?_); (case h1 => walk_at "sq"); (case h2 => walk_at "at"))
  | ((with_reducible refine' w_ixAny ?h1 ?h2 ?_); (case h1 => walk_at "sq"); (case h2 => walk_at "at"))
  | ((with_reducible refine' c_lenA ?h1 ?_); (case h1 => walk_at "sq"))
  | ((with_reducible refine' c_isi ?t1 ?k1 ?_); (case t1 => first | exact ty_T (by walk_at "sq") | exact ty_L (by walk_at "sq")); (case k1 => walk_at "kit"))
  | ((with_reducible refine' g_lst ?h1 ?h2 ?_); (case h1 => assumption); (case h2 => walk_at "sz"); intro p H2 hh2)
  | ((with_reducible refine' g_tup ?h1 ?h2 ?_); (case h1 => assumption); (case h2 => walk_at "sz"); intro p H2 hh2)
  | ((with_reducible refine' g_dict ?h1 ?_); (case h1 => assumption); intro p H2 hh2)
  | ((with_reducible refine' g_listL ?h1 ?h2 ?_); (case h1 => assumption); (case h2 => walk_at "sq"); intro p H2 hh2)
  | ((with_reducible refine' g_listT ?h1 ?h2 ?_); (case h1 => assumption); (case h2 => walk_at "sq"); intro p H2 hh2)
  | ((with_reducible refine' g_tupL ?h1 ?h2 ?_); (case h1 => assumption); (case h2 => walk_at "sq"); intro p H2 hh2)
  | ((with_reducible refine' g_set ?h1 ?h2 ?h3 ?_); (case h1 => assumption); (case h2 => walk_at "pk"); (case h3 => first | rfl | assumption | exact Evl.ixN_nat (by first | omega | (simp only [List.length_cons, List.length_nil]; omega))); intro H2 hh2)
  | ((with_reducible refine' g_kbm ?h1 ?h2 ?_); (case h1 => assumption); (case h2 => walk_at "mem"))
  | ((with_reducible refine' g_kbm0 ?h1 ?h2 ?_); (case h1 => assumption); (case h2 => walk_at "mem"))
  | ((with_reducible refine' g_app ?h1 ?h2 ?h3 ?_); (case h1 => assumption); (case h2 => walk_at "pk"); (case h3 => walk_at "sz"); intro H2 hh2)
  | ((with_reducible refine' g_kapp ?h1 ?h2 ?h3 ?_); (case h1 => assumption); (case h2 => walk_at "pk"); (case h3 => walk_at "sz"); intro H2 hh2)
  | ((with_reducible refine' g_fld ?h1 ?h2 ?h3 ?h4 ?h5 ?_); (case h1 => assumption); (case h2 => walk_at "mem"); (case h3 => assumption); (case h4 => assumption); (case h5 => rfl))
  | ((with_reducible refine' g_sfld ?h1 ?h2 ?h3 ?h4 ?h5 ?_); (case h1 => assumption); (case h2 => walk_at "pk"); (case h3 => assumption); (case h4 => assumption); (case h5 => decide); intro H2 hh2)
  | ((with_reducible refine' g_meth ?h1 ?h2 ?h3 ?_); (case h1 => assumption); (case h2 => walk_at "mem"); (case h3 => rfl))
  | ((with_reducible refine' g_prop ?h1 ?h2 ?_); (case h1 => assumption); (case h2 => walk_at "mem"))
  | ((with_reducible refine' g_make ?h1 ?_); (case h1 => assumption); intro x H2 hh2)
  | ((with_reducible refine' g_cat ?h1 ?h2 ?h3 ?h4 ?_); (case h1 => assumption); (case h2 => walk_at "mem"); (case h3 => walk_at "mem"); (case h4 => walk_at "sz"); intro p H2 hh2)
  | ((with_reducible refine' g_inT ?h1 ?h2 ?h3 ?h4 ?h5 ?_); (case h1 => assumption); (case h2 => walk_at "mem"); (case h3 => rfl); (case h4 => rfl); (case h5 => rfl)))
local macro_rules | `(tactic| walk_at "gs") => `(tactic| repeat first | walk_at "s1" | walk_at "g1")
local macro_rules | `(tactic| walk_at "ite") => `(tactic| first
  | ((with_reducible refine' w_iteT ?h1 ?_); (case h1 => omega))
  | ((with_reducible refine' w_iteF ?h1 ?_); (case h1 => omega))
  | (with_reducible refine w_ite ?_ ?_ <;> intro hq)
  | ((with_reducible refine' w_iteNT ?h1 ?_); (case h1 => omega))
  | ((with_reducible refine' w_iteNF ?h1 ?_); (case h1 => omega))
  | (with_reducible refine w_iteN ?_ ?_ <;> intro hq))
local macro_rules | `(tactic| walk_at "go") => `(tactic| repeat' first | walk_at "s1" | walk_at "g1" | walk_at "ite")
local macro_rules | `(tactic| walk_at "g1") => `(tactic| first
  | ((with_reducible refine' g_take1 ?h1 ?h2 ?h3 ?h4 ?_); (case h1 => assumption); (case h2 => walk_at "spl"); (case h3 => omega); (case h4 => omega); intro k H2 hk1 hh2)
  | ((with_reducible refine' g_take ?h1 ?h2 ?h4 ?_); (case h1 => assumption); (case h2 => walk_at "spl"); (case h4 => omega); intro k H2 hk1 hh2)
  | ((with_reducible refine' g_betweenN ?h1 ?h2 ?h5 ?h3 ?h4 ?_); (case h1 => assumption); (case h2 => walk_at "spl"); (case h5 => omega); (case h3 => omega); (case h4 => omega); intro k H2 hk1 hk2 hh2)
  | ((with_reducible refine' g_between ?h1 ?h2 ?h3 ?h4 ?_); (case h1 => assumption); (case h2 => walk_at "spl"); (case h3 => omega); (case h4 => omega); intro k H2 hk1 hk2 hh2)
  | ((with_reducible refine' g_size ?h1 ?h2 ?h3 ?h4 ?_); (case h1 => assumption); (case h2 => walk_at "spl"); (case h3 => omega); (case h4 => omega); intro k H2 hk1 hh2)
  | ((with_reducible refine' g_word ?h1 ?h2 ?_); (case h1 => assumption); (case h2 => walk_at "spl"); intro k H2 hk1 hh2))
local macro_rules | `(tactic| walk_at "g1") => `(tactic| first | with_reducible refine w_sl ?_ | with_reducible refine w_part ?_ | with_reducible refine w_noPart ?_ | with_reducible refine w_exI ?_)
section
variable {P : Program} {w : World} {K : PySem.W.Frag} {mg : Str → Option Value} {base : Heap} {aREG aOPS : Addr}
/-- wrong words; or right words with a length above seven -/
def sp_unpX (K : PySem.W.Frag) (C tP : Addr) : Sp := fun vs H Q E => ∃ v : V, vs = [v] ∧
  ((BadWm K 400 H v ∧ GxR.TabG H tP ∧ ∀ H1 H' d, GxR.TabG H1 tP → Upt [tP] H H1 → New H1 H' d (.xd [("name", .str "words")]) → E (.ref C) (some d) H') ∨
   ∃ (l : Addr) (ws : List Int) (R : List Cell), v = .ref l ∧ ws.length ≤ 400 ∧ (∀ x ∈ ws, (0 : Int) ≤ x ∧ x ≤ 65535) ∧ Spo ws ∧ Hd H (lstC l (ws.map V.int) :: tblC tP :: R) ∧ ∀ H1 H' d, Hd H1 (lstC l (ws.map V.int) :: tblC tP :: R) → New H1 H' d (.xd [("name", .str "words")]) → E (.ref C) (some d) H')
theorem x_unpack {tP C W fI : Addr} {fdI : FuncData} (T : Txt K mg aREG aOPS) (R : ErrC K mg C W fI) (dI : DefM K "__init__" "BadArgument.__init__" s_BadArgument____init__ [] fI fdI) (d : DefAt K mg "unpack_letters" s_unpack_letters) (c_ask_words : C8.Cal P w K mg base 6 "ask_words" (sp_askWs K tP) []) (cw : CalN P w K mg base 6 "ask_words" (sp_askWX K C tP)) : CalN P w K mg base 7 "unpack_letters" (sp_unpX K C tP) := by
  obtain ⟨f, fd, F, hm⟩ := d
  have bI : Binds K fdI ["self", "name"] [] := FunD.bindsN dI fun _ _ _ _ _ _ us hl => match us, hl with | [_, _], _ => rfl
  refine ⟨f, fd, ["words"], FunD.ok F sc_unpack_letters (fun vs H Q E h => ?_) (fun cdv A outer s H vs Q E hr h => ?_), hm, F.kp, FunD.bindsN F fun _ _ _ _ _ _ us hl => match us, hl with | [_], _ => rfl⟩
  · obtain ⟨v, rfl, _⟩ := h
    rfl
  · obtain ⟨v, rfl, h⟩ := h
    have F_init := f_badI (P := P) (w := w) (base := base) (CX := L2N.CX P w) R dI
    have tk := L2N.takes_of (X := cxOf (L2N.CX P w) P w K mg base nm_unpack_letters "unpack_letters" (defScope s_unpack_letters) f cdv A outer s H E) (E := E) rfl rfl rfl rfl
    rcases h with ⟨hb, hT, q⟩ | ⟨l, ws, R0, rfl, hl, hw, hu, hh, q⟩
    · refine ⟨_, pss_cons (ps_expr (pe_cN cw hr (by decide) tk rfl (pa_cons pe_str (pa_cons (pv 0) (pa_cons pe_int (pa_cons pe_int pa_nil)))))) pss_never, ?_⟩
      walk_at "s"
      unfold tCallS
      walk_at "s"
      exact ⟨"words", v, 400, rfl, by decide +kernel, hb, hT, q⟩
    · refine ⟨_, (pss_cons (ps_expr (C8.pe_c c_ask_words hr (by first | decide | omega) rfl (pa_cons pe_str (pa_cons (pv 0) (pa_cons pe_int (pa_cons pe_int pa_nil))))))
  (pss_cons (ps_set (i := 1) sc_unpack_letters.nd rfl (Or.inl rfl) (pe_lst pa_nil))
  (pss_cons (ps_set (i := 2) sc_unpack_letters.nd rfl (Or.inl rfl) pe_int)
  (pss_cons (ps_while (L2.passes_of rfl) (pt_cmpR op_lt (pv 2) (pe_callB Wk.b_len (by rfl) T.b_len (by decide +kernel) (pa_cons (pv 0) pa_nil)) (nomark _))
    (pss_cons (ps_set (i := 3) sc_unpack_letters.nd rfl (Or.inl rfl) (pe_ix ix_list (pv 0) (pv 2) (fun _ _ => rfl)))
      (pss_cons (ps_if (pt_cmpR op_gt (pv 3) pe_int (nomark _))
        (pss_one (L2N.ps_raise rfl tk (pmk_oexN R.o R.init R.fn F_init (hr.mono (by omega)) bI .nil passN rfl R.g_C (pa_cons pe_str pa_nil))))
        pss_nil)
      (pss_cons (ps_set (i := 4) sc_unpack_letters.nd rfl (Or.inl rfl) (pe_op op_add (pe_op op_add (pv 2) pe_int) (pv 3)))
      (pss_cons (ps_if (pt_cmpR op_gt (pv 4) (pe_callB Wk.b_len (by rfl) T.b_len (by decide +kernel) (pa_cons (pv 0) pa_nil)) (nomark _))
        (pss_one ps_break)
        pss_nil)
      (pss_cons (ps_expr (pe_bm PySem.F.plainAttrs_list PySem.F.slot_list_append PySem.F.type_list_append mt_append (pv 1) (pa_cons (pe_slice sl_list (pv 0) (po_some (pe_op op_add (pv 2) pe_int)) (po_some (pv 4))) pa_nil)))
      (pss_one (ps_set (i := 2) sc_unpack_letters.nd rfl (Or.inl rfl) (pv 4)))))))))
  (pss_one (ps_ret (pe_tup (pa_cons (pv 1) (pa_cons (pe_slice sl_list (pv 0) (po_some (pv 2)) po_none) pa_nil))))))))), ?_⟩
      walk_at "gs"
      refine g_askWs hh (by walk_at "spl") (by omega) (by omega) hw fun H1 h1 => ?_
      walk_at "gs"
      rename_i pl H2 h2
      refine ⟨fun m σ H => ∃ (n : Nat) (xs : List V) (v3 v4 : Option V), m = ws.length - n ∧ σ = [some (.ref l), some (.ref pl), some (.int n), v3, v4] ∧ n ≤ ws.length ∧ Spo (ws.drop n) ∧ xs.length ≤ n ∧
        Hd H (lstC pl xs :: (lstC l (ws.map V.int) :: tblC tP :: R0)), ⟨_, 0, [], none, none, rfl, rfl, Nat.zero_le _, hu, Nat.le_refl _, h2⟩, ?_⟩
      rintro m σ H3 ⟨n, xs, v3, v4, rfl, rfl, hn, hu, hc, h3⟩
      walk_at "gs"
      rw [List.length_map]
      generalize hd : ws.drop n = wd at hu
      cases hu with
      | @here k rest h7 =>
        have e := congrArg List.length hd
        rw [List.length_drop, List.length_cons] at e
        have e0 : ws[n]? = some (k : Int) := by
          have := congrArg (·[0]?) hd
          simpa using this
        rw [if_pos (by simp only [decide_eq_true_eq]; omega)]
        refine ⟨_, fun _ _ z => z, ?_⟩
        walk_at "gs"
        rename_i z hz
        rw [e0] at hz
        cases hz
        rw [if_pos (by simp only [decide_eq_true_eq]; omega)]
        walk_at "gs"
        exact w_mkBad (by decide +kernel) fun d H' n => q H3 H' d (Hd.sb h3 (by walk_at "sbx")) n
      | @next l0 rest h7 hu =>
        have e := congrArg List.length hd
        rw [List.length_drop, List.length_cons, List.length_append] at e
        have e0 : ws[n]? = some (l0.length : Int) := by
          have := congrArg (·[0]?) hd
          simpa using this
        rw [if_pos (by simp only [decide_eq_true_eq]; omega)]
        refine ⟨_, fun _ _ z => z, ?_⟩
        walk_at "gs"
        rename_i z hz
        rw [e0] at hz
        cases hz
        rw [if_neg (by simp only [decide_eq_true_eq]; omega)]
        walk_at "gs"
        rw [List.length_map]
        rw [if_neg (by simp only [decide_eq_true_eq]; omega)]
        walk_at "gs"
        rw [show ((n : Int) + 1) = ((n + 1 : Nat) : Int) from by omega, show ((n + 1 : Nat) : Int) + (l0.length : Int) = ((n + 1 + l0.length : Nat) : Int) from by omega]
        refine g_slMid h3 (Hd.sqL h3 (by walk_at "mem")) (by rw [List.length_map]; omega) (by omega) fun p4 H4 h4 => ?_
        walk_at "gs"
        rename_i H5 h5
        refine ⟨_, ?_, n + 1 + l0.length, xs ++ [.ref p4], some (.int l0.length), some (.int ((n + 1 + l0.length : Nat) : Int)), rfl, rfl, by omega, ?_, by rw [List.length_append, List.length_singleton]; omega, ?_⟩
        · omega
        · rw [← List.drop_drop, ← List.drop_drop, hd]
          show Spo ((l0 ++ rest).drop l0.length)
          rw [List.drop_left]
          exact hu
        · exact Hd.sb h5 (by walk_at "sbx")
end
end K46
set_option Elab.async false
set_option linter.all false
set_option maxRecDepth 100000
set_option maxHeartbeats 4000000
namespace K46
open PySem PySem.Spec PyProof.Rows L2 Wk
local macro_rules | `(tactic| walk_at "u1") => `(tactic| fail "no more")
local macro_rules | `(tactic| walk_at "pos") => `(tactic| first | assumption | omega | decide | (simp only [Int.ofNat_eq_natCast] at *; omega))
local macro_rules | `(tactic| walk_at "sz") => `(tactic| first
  | (simp only [List.length_cons, List.length_nil]; decide)
  | exact Evl.sz_of (by omega)
  | exact Evl.sz_lt (by omega)
  | exact Evl.sz_of (by simp only [List.length_map, List.length_append, List.length_cons, List.length_nil, List.length_replicate]; omega)
  | exact Evl.sz_lt (by simp only [List.length_map, List.length_append, List.length_cons, List.length_nil, List.length_replicate]; omega))
local macro_rules | `(tactic| walk_at "cond") => `(tactic| first
  | exact Or.inr ⟨by decide, by decide⟩
  | (show (0 : Int) < _; first | decide | assumption | omega)
  | exact Or.inl ⟨by omega, by omega⟩
  | exact Or.inr ⟨by omega, by omega⟩
  | exact ⟨by decide, by decide, by decide⟩
  | exact log2_lt (by omega) (by omega)
  | exact ⟨by omega, by omega⟩)
local macro_rules | `(tactic| walk_at "ty") => `(tactic| first
  | exact ty_int | exact ty_bl | exact ty_str | exact ty_non
  | exact ty_L (by assumption) | exact ty_T (by assumption)
  | exact ty_L (SqL.of (by assumption)) | exact ty_T (SqT.of (by assumption)))
local macro_rules | `(tactic| walk_at "kit") => `(tactic| first
  | exact k_ii | exact k_ib | exact k_is | exact k_il | exact k_it
  | exact k_bb | exact k_bi | exact k_bs | exact k_bl | exact k_bt
  | exact k_ss | exact k_sb | exact k_si | exact k_sl | exact k_st
  | exact k_ll | exact k_lb | exact k_li | exact k_ls | exact k_lt
  | exact k_tt | exact k_tb | exact k_ti | exact k_ts | exact k_tl
  | exact k_nn | exact k_ni | exact k_ns | exact k_nl | exact k_nt)
local macro_rules | `(tactic| walk_at "s1") => `(tactic| first
  | with_reducible refine w_seq ?_
  | with_reducible refine w_set ?_
  | with_reducible refine w_op ?_
  | ((with_reducible refine' w_var ?h1 ?_); (case h1 => rfl))
  | with_reducible refine w_c ?_
  | with_reducible refine w_cb ?_
  | with_reducible refine w_cons ?_
  | with_reducible refine w_nil ?_
  | with_reducible refine w_I0 ?_
  | ((with_reducible refine' w_I ?c1 ?_); case c1 => walk_at "cond")
  | with_reducible refine w_ret ?_
  | with_reducible refine w_next ?_
  | with_reducible refine w_ifS ?_
  | with_reducible refine w_test ?_
  | with_reducible refine w_tB ?_
  | with_reducible refine w_k ?_
  | with_reducible refine w_eqI ?_
  | with_reducible refine w_neI ?_
  | with_reducible refine w_eqS ?_
  | with_reducible refine w_neS ?_
  | with_reducible refine w_and ?_
  | with_reducible refine w_or ?_
  | with_reducible refine w_not ?_
  | with_reducible refine w_andV ?_
  | with_reducible refine w_orV ?_
  | with_reducible refine w_notV ?_
  | with_reducible refine w_ifE ?_
  | with_reducible refine w_true ?_
  | with_reducible refine w_false ?_
  | with_reducible refine w_ntrue ?_
  | with_reducible refine w_nfalse ?_
  | with_reducible refine w_call ?_
  | with_reducible refine c_int ?_
  | with_reducible refine c_abs ?_
  | with_reducible refine c_max ?_
  | with_reducible refine c_min ?_
  | with_reducible refine w_drop ?_
  | with_reducible refine w_sfld ?_
  | with_reducible refine w_meth ?_
  | with_reducible refine w_make ?_
  | with_reducible refine w_prop ?_
  | with_reducible refine w_callK ?_
  | with_reducible refine w_callN ?_
  | with_reducible refine w_star ?_
  | with_reducible refine w_gcons ?_
  | with_reducible refine w_gname ?_
  | with_reducible refine w_gnil ?_
  | with_reducible refine w_retN ?_
  | with_reducible refine w_tup ?_
  | with_reducible refine w_lst ?_
  | with_reducible refine w_fld ?_
  | with_reducible refine w_bm ?_
  | with_reducible refine w_bm0 ?_
  | with_reducible refine w_forL ?_
  | with_reducible refine w_forT ?_
  | with_reducible refine w_forS ?_
  | with_reducible refine w_forR ?_
  | with_reducible refine w_lcR ?_
  | with_reducible refine w_lcL ?_
  | with_reducible refine w_lcT ?_
  | with_reducible refine w_isN ?_
  | with_reducible refine w_notN ?_
  | with_reducible refine w_asg ?_
  | with_reducible refine w_gsub ?_
  | ((with_reducible refine' w_aug ?h1 ?_); (case h1 => rfl))
  | with_reducible refine w_augS ?_
  | with_reducible refine w_ipI ?_
  | with_reducible refine w_un ?_
  | with_reducible refine w_U ?_
  | ((with_reducible refine' w_iteF ?f1 ?_); case f1 => (first | (intro h; cases h; done) | decide))
  | ((with_reducible refine' w_iteT ?f1 ?_); case f1 => rfl)
  | ((with_reducible refine' w_iteNF ?f1 ?_); case f1 => rfl)
  | ((with_reducible refine' w_iteNT ?f1 ?_); case f1 => (first | (intro h; cases h; done) | decide))
  | ((with_reducible refine' c_isi ?t1 ?k1 ?_); (case t1 => walk_at "ty"); (case k1 => walk_at "kit"))
  | ((with_reducible refine' w_eq ?e1 ?_); case e1 => rfl)
  | ((with_reducible refine' w_ne ?e1 ?_); case e1 => rfl)
  | walk_at "u1")
local macro_rules | `(tactic| walk_at "s") => `(tactic| repeat walk_at "s1")
local macro_rules | `(tactic| walk_at "mem") => `(tactic| first | with_reducible exact List.mem_cons_self .. | ((with_reducible refine' List.mem_cons_of_mem _ ?q); (case q => walk_at "mem")) | assumption | ((with_reducible refine' List.mem_append_right _ ?q); (case q => walk_at "mem")) | (exact List.mem_append_left _ (by assumption)))
local macro_rules | `(tactic| walk_at "pk") => `(tactic| first | with_reducible exact Pk.here | ((with_reducible refine' Pk.there ?q); (case q => walk_at "pk")) | ((with_reducible refine' Pk.app ?q); (case q => walk_at "pk")))
local macro_rules | `(tactic| walk_at "pkb") => `(tactic| first | with_reducible exact PkB.here | ((with_reducible refine' PkB.there ?q); (case q => walk_at "pkb")) | ((with_reducible refine' PkB.app ?q); (case q => walk_at "pkb")))
local macro_rules | `(tactic| walk_at "spl") => `(tactic| first | with_reducible exact Spl.nil | ((with_reducible refine' Spl.cons ?h ?t); (case h => walk_at "pk"); (case t => walk_at "spl")) | ((with_reducible refine' Spl.blk ?h ?t); (case h => walk_at "pkb"); (case t => walk_at "spl")))
local macro_rules | `(tactic| walk_at "sbx") => `(tactic| first | with_reducible exact Sb.refl | with_reducible exact Sb.nil | with_reducible exact Sb.left | ((with_reducible refine' Sb.cons ?h ?t); (case h => walk_at "pk"); (case t => walk_at "sbx")) | ((with_reducible refine' Sb.blk ?h ?t); (case h => walk_at "pkb"); (case t => walk_at "sbx")) | ((with_reducible refine' Sb.drop ?q); (case q => walk_at "sbx")) | ((with_reducible refine' Sb.right ?q); (case q => walk_at "sbx")))
local macro_rules | `(tactic| walk_at "hd") => `(tactic| first | assumption | exact Hd.sb (by assumption) (by walk_at "sbx"))
local macro_rules | `(tactic| walk_at "sq") => `(tactic| first
  | assumption
  | exact Hd.sqL (by assumption) (by walk_at "mem")
  | exact Hd.sqT (by assumption) (by walk_at "mem")
  | exact Hd.sqF (by assumption) (by walk_at "mem")
  | (refine .inl ?_; walk_at "sq")
  | (refine .inr ?_; walk_at "sq"))
local macro_rules | `(tactic| walk_at "at") => `(tactic| first | rfl | assumption | exact atI_nat (by assumption))
local macro_rules | `(tactic| walk_at "dn1") => `(tactic| first
  | exact Dn.int | exact Dn.str | exact Dn.non | exact Dn.bl | assumption
  | ((refine' Dn.tp ?a1 ?m1 ?l1 ?p1); (case a1 => assumption); (case m1 => walk_at "mem"); (case l1 => (simp only [List.length_cons, List.length_nil]; omega)); (case p1 => walk_at "dns"))
  | ((refine' Dn.lt ?a1 ?m1 ?l1 ?p1); (case a1 => assumption); (case m1 => walk_at "mem"); (case l1 => (simp only [List.length_cons, List.length_nil]; omega)); (case p1 => walk_at "dns")))
local macro_rules | `(tactic| walk_at "dns") => `(tactic| first | exact Paired.nil | exact Dn.ints | ((refine' Paired.cons ?a1 ?b1); (case a1 => walk_at "dn1"); (case b1 => walk_at "dns")))
local macro_rules | `(tactic| walk_at "g1") => `(tactic| first
  | ((with_reducible refine' g_ixI ?h1 ?h2 ?h3 ?_); (case h1 => assumption); (case h2 => walk_at "mem"); (case h3 => omega); intro z hz)
  | ((with_reducible refine' g_ixIT ?h1 ?h2 ?h3 ?_); (case h1 => assumption); (case h2 => walk_at "mem"); (case h3 => omega); intro z hz)
  | ((with_reducible refine' g_setI ?h1 ?h2 ?h3 ?_); (case h1 => assumption); (case h2 => walk_at "pk"); (case h3 => omega); intro H2 hh2)
  | ((with_reducible refine' w_ixL ?h1 ?h2 ?_); (case h1 => walk_at "sq"); (case h2 => walk_at "at"))
  | ((with_reducible refine' w_ixT ?h1 ?h2 ?_); (case h1 => walk_at "sq"); (case h2 => walk_at "at"))
  | ((with_reducible refine' w_ixAny ?h1 ?h2 ?_); (case h1 => walk_at "sq"); (case h2 => walk_at "at"))
  | ((with_reducible refine' c_lenA ?h1 ?_); (case h1 => walk_at "sq"))
  | ((with_reducible refine' c_isi ?t1 ?k1 ?_); (case t1 => first | exact ty_T (by walk_at "sq") | exact ty_L (by walk_at "sq")); (case k1 => walk_at "kit"))
  | ((with_reducible refine' g_lst ?h1 ?h2 ?_); (case h1 => assumption); (case h2 => walk_at "sz"); intro p H2 hh2)
  | ((with_reducible refine' g_tup ?h1 ?h2 ?_); (case h1 => assumption); (case h2 => walk_at "sz"); intro p H2 hh2)
  | ((with_reducible refine' g_dict ?h1 ?_); (case h1 => assumption); intro p H2 hh2)
  | ((with_reducible refine' g_listL ?h1 ?h2 ?_); (case h1 => assumption); (case h2 => walk_at "sq"); intro p H2 hh2)
  | ((with_reducible refine' g_listT ?h1 ?h2 ?_); (case h1 => assumption); (case h2 => walk_at "sq"); intro p H2 hh2)
  | ((with_reducible refine' g_tupL ?h1 ?h2 ?_); (case h1 => assumption); (case h2 => walk_at "sq"); intro p H2 hh2)
  | ((with_reducible refine' g_set ?h1 ?h2 ?h3 ?_); (case h1 => assumption); (case h2 => walk_at "pk"); (case h3 => first | rfl | assumption | exact Evl.ixN_nat (by first | omega | (simp only [List.length_cons, List.length_nil]; omega))); intro H2 hh2)
  | ((with_reducible refine' g_kbm ?h1 ?h2 ?_); (case h1 => assumption); (case h2 => walk_at "mem"))
  | ((with_reducible refine' g_kbm0 ?h1 ?h2 ?_); (case h1 => assumption); (case h2 => walk_at "mem"))
  | ((with_reducible refine' g_app ?h1 ?h2 ?h3 ?_); (case h1 => assumption); (case h2 => walk_at "pk"); (case h3 => walk_at "sz"); intro H2 hh2)
  | ((with_reducible refine' g_kapp ?h1 ?h2 ?h3 ?_); (case h1 => assumption); (case h2 => walk_at "pk"); (case h3 => walk_at "sz"); intro H2 hh2)
  | ((with_reducible refine' g_fld ?h1 ?h2 ?h3 ?h4 ?h5 ?_); (case h1 => assumption); (case h2 => walk_at "mem"); (case h3 => assumption); (case h4 => assumption); (case h5 => rfl))
  | ((with_reducible refine' g_sfld ?h1 ?h2 ?h3 ?h4 ?h5 ?_); (case h1 => assumption); (case h2 => walk_at "pk"); (case h3 => assumption); (case h4 => assumption); (case h5 => decide); intro H2 hh2)
  | ((with_reducible refine' g_meth ?h1 ?h2 ?h3 ?_); (case h1 => assumption); (case h2 => walk_at "mem"); (case h3 => rfl))
  | ((with_reducible refine' g_prop ?h1 ?h2 ?_); (case h1 => assumption); (case h2 => walk_at "mem"))
  | ((with_reducible refine' g_make ?h1 ?_); (case h1 => assumption); intro x H2 hh2)
  | ((with_reducible refine' g_cat ?h1 ?h2 ?h3 ?h4 ?_); (case h1 => assumption); (case h2 => walk_at "mem"); (case h3 => walk_at "mem"); (case h4 => walk_at "sz"); intro p H2 hh2)
  | ((with_reducible refine' g_inT ?h1 ?h2 ?h3 ?h4 ?h5 ?_); (case h1 => assumption); (case h2 => walk_at "mem"); (case h3 => rfl); (case h4 => rfl); (case h5 => rfl)))
local macro_rules | `(tactic| walk_at "gs") => `(tactic| repeat first | walk_at "s1" | walk_at "g1")
local macro_rules | `(tactic| walk_at "ite") => `(tactic| first
  | ((with_reducible refine' w_iteT ?h1 ?_); (case h1 => omega))
  | ((with_reducible refine' w_iteF ?h1 ?_); (case h1 => omega))
  | (with_reducible refine w_ite ?_ ?_ <;> intro hq)
  | ((with_reducible refine' w_iteNT ?h1 ?_); (case h1 => omega))
  | ((with_reducible refine' w_iteNF ?h1 ?_); (case h1 => omega))
  | (with_reducible refine w_iteN ?_ ?_ <;> intro hq))
local macro_rules | `(tactic| walk_at "go") => `(tactic| repeat' first | walk_at "s1" | walk_at "g1" | walk_at "ite")
local macro_rules | `(tactic| walk_at "g1") => `(tactic| first
  | ((with_reducible refine' g_take1 ?h1 ?h2 ?h3 ?h4 ?_); (case h1 => assumption); (case h2 => walk_at "spl"); (case h3 => omega); (case h4 => omega); intro k H2 hk1 hh2)
  | ((with_reducible refine' g_take ?h1 ?h2 ?h4 ?_); (case h1 => assumption); (case h2 => walk_at "spl"); (case h4 => omega); intro k H2 hk1 hh2)
  | ((with_reducible refine' g_betweenN ?h1 ?h2 ?h5 ?h3 ?h4 ?_); (case h1 => assumption); (case h2 => walk_at "spl"); (case h5 => omega); (case h3 => omega); (case h4 => omega); intro k H2 hk1 hk2 hh2)
  | ((with_reducible refine' g_between ?h1 ?h2 ?h3 ?h4 ?_); (case h1 => assumption); (case h2 => walk_at "spl"); (case h3 => omega); (case h4 => omega); intro k H2 hk1 hk2 hh2)
  | ((with_reducible refine' g_size ?h1 ?h2 ?h3 ?h4 ?_); (case h1 => assumption); (case h2 => walk_at "spl"); (case h3 => omega); (case h4 => omega); intro k H2 hk1 hh2)
  | ((with_reducible refine' g_word ?h1 ?h2 ?_); (case h1 => assumption); (case h2 => walk_at "spl"); intro k H2 hk1 hh2))
local macro_rules | `(tactic| walk_at "g1") => `(tactic| first | with_reducible refine w_sl ?_ | with_reducible refine w_part ?_ | with_reducible refine w_noPart ?_ | with_reducible refine w_exI ?_)
section
variable {P : Program} {w : World} {K : PySem.W.Frag} {mg : Str → Option Value} {base : Heap} {aREG aOPS : Addr}
section
variable {CE W fI fE tP : Addr} {fdE : FuncData}
def sp_calledP (K : PySem.W.Frag) (tP : Addr) : Sp := fun vs H Q _ => ∃ (a : Addr) (ws : List Int) (k : Nat) (R : List Cell), vs = [.str "pack", .ref a, .int k] ∧ k ≤ 1 ∧ ws.length ≤ 7 ∧ (∀ x ∈ ws, (0 : Int) ≤ x ∧ x ≤ 65535) ∧ (∀ H', Hd H' R → SqL K H' a (ws.map V.int)) ∧ Hd H (tblC tP :: R) ∧
  ∀ t p H', Hd H' (tupC t [.str "answer", .ref p] :: lstC p (((ws.length : Int) :: ws).map V.int) :: tblC tP :: R) → Q (.ref t) H'
def sp_calledU (K : PySem.W.Frag) (tP : Addr) : Sp := fun vs H Q _ => ∃ (a : Addr) (ws : List Int) (ls : List (List Int)) (r : List Int) (k : Nat) (R : List Cell), vs = [.str "unpack", .ref a, .int k] ∧ k ≤ 1 ∧ ws.length ≤ 400 ∧ (∀ x ∈ ws, (0 : Int) ≤ x ∧ x ≤ 65535) ∧ Unp ws ls r ∧ (∀ H', Hd H' R → SqL K H' a (ws.map V.int)) ∧ Hd H (tblC tP :: R) ∧
  ∀ (u t p q : Addr) (as : List Addr) H', as.length = ls.length → Hd H' (tupC u [.str "answer", .ref t] :: tupC t [.ref p, .ref q] :: lstC p (as.map V.ref) :: lstC q (r.map V.int) :: (Ls as ls ++ (tblC tP :: R))) → Q (.ref u) H'
def sp_calledG (K : PySem.W.Frag) (tP : Addr) : Sp := fun vs H Q E => sp_calledP K tP vs H Q E ∨ sp_calledU K tP vs H Q E
theorem b_calledG (T : Txt K mg aREG aOPS) (R : ErrC K mg CE W fI) (c__law_copy : C8.Cal P w K mg base 2 "_law_copy" (sp_copyL K 0) []) (c__law_alike : C8.Cal P w K mg base 2 "_law_alike" (sp_alike K 2) [])
    (c_pack_letter : C8.Cal P w K mg base 7 "pack_letter" (sp_pack tP) []) (ck_pack_letter_letter : CalK P w K mg base 7 "pack_letter" (sp_pack tP) 0 ["letter"] (fun _ zs => zs)) (c_unpack_letters : C8.Cal P w K mg base 7 "unpack_letters" (sp_unpack tP) []) (ck_unpack_letters_words : CalK P w K mg base 7 "unpack_letters" (sp_unpack tP) 0 ["words"] (fun _ zs => zs))
    (F_err : FnE P w K mg base C8.CX0 1 fE fdE ["e"] (sp_err CE)) (F_errM : mg "_law_refusal" = some (.ref fE)) (F_errK : PySem.W.keepIn K (.ref fE) = true) (F_errB : Binds K fdE ["e"] [])
    (f : Addr) (cdv : Value) (A : Around) (outer : List Env) (s : Shared) (H : Hp) (vs : List V) (Q : VK) (E : XK) (hr : Room 7 (A.deeper (envOfC "_law_called" (defScope s__law_called) s.heap.objs.size f cdv))) (h : sp_calledG K tP vs H Q E) :
    ∃ t, PSs (cxOf C8.CX0 P w K mg base nm__law_called "_law_called" (defScope s__law_called) f cdv A outer s H E).nox (defBody s__law_called) t ∧ t { nx := fun _ H' => Q .non H', rt := Q } (L2.start nm__law_called vs) H := by
  rcases h with ⟨a, ws, k, R0, rfl, hk, hl, hw, hs, hh, q⟩ | ⟨a, ws, ls, r, k, R0, rfl, hk, hl, hw, hu, hs, hh, q⟩
  · refine ⟨_, (pss_cons (ps_set (i := 3) sc__law_called.nd rfl (Or.inl rfl) (C8.pe_c c__law_copy hr (by first | decide | omega) rfl (pa_cons (pv 1) pa_nil)))
  (pss_cons (L2N.ps_try_as rfl rfl sc__law_called.nd (i := 5) rfl rfl ⟨rfl, by decide, .inl R.g_W⟩ takes0N (fun W pn xe tk pw => (pss_one (ps_if (PW.pt (pw_and (pt_cmpR op_eq (pv 0) pe_str (nomark _)) (pw_and1 (pt_cmpR op_eq (pv 2) pe_int (nomark _)))))
        (pss_one (ps_set (i := 4) sc__law_called.nd rfl (Or.inl rfl) (pe_tup (pa_cons pe_str (pa_cons (Wk.pe_ck ck_pack_letter_letter hr (by first | decide | omega) rfl (pk_cons (pv 3) pk_nil)) pa_nil)))))
        (pss_one (ps_if (pt_cmpR op_eq (pv 0) pe_str (nomark _))
            (pss_one (ps_set (i := 4) sc__law_called.nd rfl (Or.inl rfl) (pe_tup (pa_cons pe_str (pa_cons (C8.pe_c c_pack_letter hr (by first | decide | omega) rfl (pa_cons (pv 3) pa_nil)) pa_nil)))))
            (pss_one (ps_if (pt_cmpR op_eq (pv 2) pe_int (nomark _))
                (pss_one (ps_set (i := 4) sc__law_called.nd rfl (Or.inl rfl) (pe_tup (pa_cons pe_str (pa_cons (Wk.pe_ck ck_unpack_letters_words hr (by first | decide | omega) rfl (pk_cons (pv 3) pk_nil)) pa_nil)))))
                (pss_one (ps_set (i := 4) sc__law_called.nd rfl (Or.inl rfl) (pe_tup (pa_cons pe_str (pa_cons (C8.pe_c c_unpack_letters hr (by first | decide | omega) rfl (pa_cons (pv 3) pa_nil)) pa_nil)))))))))))) (fun a oe cls d pn hz hf => pss_one (ps_ret (pe_callE (E := fun _ => C8.E0) (imp_err hz hf) F_err (rH hr) (hot_err hz hf) (List.mem_cons_self ..) rfl F_errM F_errK F_errB (fun _ _ _ _ _ _ _ h => h.elim) (pa_cons (pv 5) pa_nil)))))
  (pss_cons (ps_if (pt_not (pt_val (C8.pe_c c__law_alike hr (by first | decide | omega) rfl (pa_cons (pv 1) (pa_cons (pv 3) pa_nil)))))
    (pss_one (ps_ret (pe_tup (pa_cons pe_str pa_nil))))
    pss_nil)
  (pss_one (ps_ret (pv 4)))))), ?_⟩
    walk_at "gs"
    refine g_copyL (ds := ws.map PyData.int) hh (hs _ hh.tail) (by rw [List.length_map]; omega) Dn.ints fun D acc Z H1 hz h1 => ?_
    obtain rfl := Paired.ints_inv (hz _ (Hd.sb h1 (by walk_at "sbx")))
    have h1 := Hd.sb (A := lstC D (ws.map V.int) :: tblC tP :: R0) h1 (by walk_at "sbx")
    obtain rfl | rfl : k = 0 ∨ k = 1 := by omega
    · walk_at "gs"
      refine ⟨D, ws, R0, rfl, hl, hw, h1, fun p H2 h2 => ?_⟩
      walk_at "gs"
      rename_i t H3 h3
      refine u_alike (n := 1) (d := .list (ws.map PyData.int)) (Dn.lst (hs _ (Hd.sb h3 (by walk_at "sbx"))) (by simp) (by rw [List.length_map]; omega) Dn.ints) (Dn.lt (n := 0) h3 (by walk_at "mem") (by rw [List.length_map]; omega) Dn.ints) ?_
      walk_at "gs"
      exact q t p H3 (Hd.sb h3 (by walk_at "sbx"))
    · walk_at "gs"
      refine ⟨rfl, D, ws, R0, rfl, hl, hw, h1, fun p H2 h2 => ?_⟩
      walk_at "gs"
      rename_i t H3 h3
      refine u_alike (n := 1) (d := .list (ws.map PyData.int)) (Dn.lst (hs _ (Hd.sb h3 (by walk_at "sbx"))) (by simp) (by rw [List.length_map]; omega) Dn.ints) (Dn.lt (n := 0) h3 (by walk_at "mem") (by rw [List.length_map]; omega) Dn.ints) ?_
      walk_at "gs"
      exact q t p H3 (Hd.sb h3 (by walk_at "sbx"))
  · refine ⟨_, (pss_cons (ps_set (i := 3) sc__law_called.nd rfl (Or.inl rfl) (C8.pe_c c__law_copy hr (by first | decide | omega) rfl (pa_cons (pv 1) pa_nil)))
  (pss_cons (L2N.ps_try_as rfl rfl sc__law_called.nd (i := 5) rfl rfl ⟨rfl, by decide, .inl R.g_W⟩ takes0N (fun W pn xe tk pw => (pss_one (ps_if (PW.pt (pw_and (pt_cmpR op_eq (pv 0) pe_str (nomark _)) (pw_and1 (pt_cmpR op_eq (pv 2) pe_int (nomark _)))))
        (pss_one (ps_set (i := 4) sc__law_called.nd rfl (Or.inl rfl) (pe_tup (pa_cons pe_str (pa_cons (Wk.pe_ck ck_pack_letter_letter hr (by first | decide | omega) rfl (pk_cons (pv 3) pk_nil)) pa_nil)))))
        (pss_one (ps_if (pt_cmpR op_eq (pv 0) pe_str (nomark _))
            (pss_one (ps_set (i := 4) sc__law_called.nd rfl (Or.inl rfl) (pe_tup (pa_cons pe_str (pa_cons (C8.pe_c c_pack_letter hr (by first | decide | omega) rfl (pa_cons (pv 3) pa_nil)) pa_nil)))))
            (pss_one (ps_if (pt_cmpR op_eq (pv 2) pe_int (nomark _))
                (pss_one (ps_set (i := 4) sc__law_called.nd rfl (Or.inl rfl) (pe_tup (pa_cons pe_str (pa_cons (Wk.pe_ck ck_unpack_letters_words hr (by first | decide | omega) rfl (pk_cons (pv 3) pk_nil)) pa_nil)))))
                (pss_one (ps_set (i := 4) sc__law_called.nd rfl (Or.inl rfl) (pe_tup (pa_cons pe_str (pa_cons (C8.pe_c c_unpack_letters hr (by first | decide | omega) rfl (pa_cons (pv 3) pa_nil)) pa_nil)))))))))))) (fun a oe cls d pn hz hf => pss_one (ps_ret (pe_callE (E := fun _ => C8.E0) (imp_err hz hf) F_err (rH hr) (hot_err hz hf) (List.mem_cons_self ..) rfl F_errM F_errK F_errB (fun _ _ _ _ _ _ _ h => h.elim) (pa_cons (pv 5) pa_nil)))))
  (pss_cons (ps_if (pt_not (pt_val (C8.pe_c c__law_alike hr (by first | decide | omega) rfl (pa_cons (pv 1) (pa_cons (pv 3) pa_nil)))))
    (pss_one (ps_ret (pe_tup (pa_cons pe_str pa_nil))))
    pss_nil)
  (pss_one (ps_ret (pv 4)))))), ?_⟩
    walk_at "gs"
    refine g_copyL (ds := ws.map PyData.int) hh (hs _ hh.tail) (by rw [List.length_map]; omega) Dn.ints fun D acc Z H1 hz h1 => ?_
    obtain rfl := Paired.ints_inv (hz _ (Hd.sb h1 (by walk_at "sbx")))
    have h1 := Hd.sb (A := lstC D (ws.map V.int) :: tblC tP :: R0) h1 (by walk_at "sbx")
    obtain rfl | rfl : k = 0 ∨ k = 1 := by omega
    · walk_at "gs"
      refine ⟨D, ws, ls, r, R0, rfl, hl, hw, hu, h1, fun t p q1 as H2 ha h2 => ?_⟩
      walk_at "gs"
      rename_i u H3 h3
      refine u_alike (n := 1) (d := .list (ws.map PyData.int)) (Dn.lst (hs _ (Hd.sb h3 (by walk_at "sbx"))) (by simp) (by rw [List.length_map]; omega) Dn.ints) (Dn.lt (n := 0) h3 (by walk_at "mem") (by rw [List.length_map]; omega) Dn.ints) ?_
      walk_at "gs"
      exact q u t p q1 as H3 ha (Hd.sb h3 (by walk_at "sbx"))
    · walk_at "gs"
      refine ⟨rfl, D, ws, ls, r, R0, rfl, hl, hw, hu, h1, fun t p q1 as H2 ha h2 => ?_⟩
      walk_at "gs"
      rename_i u H3 h3
      refine u_alike (n := 1) (d := .list (ws.map PyData.int)) (Dn.lst (hs _ (Hd.sb h3 (by walk_at "sbx"))) (by simp) (by rw [List.length_map]; omega) Dn.ints) (Dn.lt (n := 0) h3 (by walk_at "mem") (by rw [List.length_map]; omega) Dn.ints) ?_
      walk_at "gs"
      exact q u t p q1 as H3 ha (Hd.sb h3 (by walk_at "sbx"))
end
end
end K46
set_option Elab.async false
set_option linter.all false
set_option maxRecDepth 100000
set_option maxHeartbeats 4000000
namespace K46
open PySem PySem.Spec PyProof.Rows L2 Wk
local macro_rules | `(tactic| walk_at "u1") => `(tactic| fail "no more")
local macro_rules | `(tactic| walk_at "pos") => `(tactic| first | assumption | omega | decide | (simp only [Int.ofNat_eq_natCast] at *; omega))
local macro_rules | `(tactic| walk_at "sz") => `(tactic| first
  | (simp only [List.length_cons, List.length_nil]; decide)
  | exact Evl.sz_of (by omega)
  | exact Evl.sz_lt (by omega)
  | exact Evl.sz_of (by simp only [List.length_map, List.length_append, List.length_cons, List.length_nil, List.length_replicate]; omega)
  | exact Evl.sz_lt (by simp only [List.length_map, List.length_append, List.length_cons, List.length_nil, List.length_replicate]; omega))
local macro_rules | `(tactic| walk_at "cond") => `(tactic| first
  | exact Or.inr ⟨by decide, by decide⟩
  | (show (0 : Int) < _; first | decide | assumption | omega)
  | exact Or.inl ⟨by omega, by omega⟩
  | exact Or.inr ⟨by omega, by omega⟩
  | exact ⟨by decide, by decide, by decide⟩
  | exact log2_lt (by omega) (by omega)
  | exact ⟨by omega, by omega⟩)
local macro_rules | `(tactic| walk_at "ty") => `(tactic| first
  | exact ty_int | exact ty_bl | exact ty_str | exact ty_non
  | exact ty_L (by assumption) | exact ty_T (by assumption)
  | exact ty_L (SqL.of (by assumption)) | exact ty_T (SqT.of (by assumption)))
local macro_rules | `(tactic| walk_at "kit") => `(tactic| first
  | exact k_ii | exact k_ib | exact k_is | exact k_il | exact k_it
  | exact k_bb | exact k_bi | exact k_bs | exact k_bl | exact k_bt
  | exact k_ss | exact k_sb | exact k_si | exact k_sl | exact k_st
  | exact k_ll | exact k_lb | exact k_li | exact k_ls | exact k_lt
  | exact k_tt | exact k_tb | exact k_ti | exact k_ts | exact k_tl
  | exact k_nn | exact k_ni | exact k_ns | exact k_nl | exact k_nt)
local macro_rules | `(tactic| walk_at "s1") => `(tactic| first
  | with_reducible refine w_seq ?_
  | with_reducible refine w_set ?_
  | with_reducible refine w_op ?_
  | ((with_reducible refine' w_var ?h1 ?_); (case h1 => rfl))
  | with_reducible refine w_c ?_
  | with_reducible refine w_cb ?_
  | with_reducible refine w_cons ?_
  | with_reducible refine w_nil ?_
  | with_reducible refine w_I0 ?_
  | ((with_reducible refine' w_I ?c1 ?_); case c1 => walk_at "cond")
  | with_reducible refine w_ret ?_
  | with_reducible refine w_next ?_
  | with_reducible refine w_ifS ?_
  | with_reducible refine w_test ?_
  | with_reducible refine w_tB ?_
  | with_reducible refine w_k ?_
  | with_reducible refine w_eqI ?_
  | with_reducible refine w_neI ?_
  | with_reducible refine w_eqS ?_
  | with_reducible refine w_neS ?_
  | with_reducible refine w_and ?_
  | with_reducible refine w_or ?_
  | with_reducible refine w_not ?_
  | with_reducible refine w_andV ?_
  | with_reducible refine w_orV ?_
  | with_reducible refine w_notV ?_
  | with_reducible refine w_ifE ?_
  | with_reducible refine w_true ?_
  | with_reducible refine w_false ?_
  | with_reducible refine w_ntrue ?_
  | with_reducible refine w_nfalse ?_
  | with_reducible refine w_call ?_
  | with_reducible refine c_int ?_
  | with_reducible refine c_abs ?_
  | with_reducible refine c_max ?_
  | with_reducible refine c_min ?_
  | with_reducible refine w_drop ?_
  | with_reducible refine w_sfld ?_
  | with_reducible refine w_meth ?_
  | with_reducible refine w_make ?_
  | with_reducible refine w_prop ?_
  | with_reducible refine w_callK ?_
  | with_reducible refine w_callN ?_
  | with_reducible refine w_star ?_
  | with_reducible refine w_gcons ?_
  | with_reducible refine w_gname ?_
  | with_reducible refine w_gnil ?_
  | with_reducible refine w_retN ?_
  | with_reducible refine w_tup ?_
  | with_reducible refine w_lst ?_
  | with_reducible refine w_fld ?_
  | with_reducible refine w_bm ?_
  | with_reducible refine w_bm0 ?_
  | with_reducible refine w_forL ?_
  | with_reducible refine w_forT ?_
  | with_reducible refine w_forS ?_
  | with_reducible refine w_forR ?_
  | with_reducible refine w_lcR ?_
  | with_reducible refine w_lcL ?_
  | with_reducible refine w_lcT ?_
  | with_reducible refine w_isN ?_
  | with_reducible refine w_notN ?_
  | with_reducible refine w_asg ?_
  | with_reducible refine w_gsub ?_
  | ((with_reducible refine' w_aug ?h1 ?_); (case h1 => rfl))
  | with_reducible refine w_augS ?_
  | with_reducible refine w_ipI ?_
  | with_reducible refine w_un ?_
  | with_reducible refine w_U ?_
  | ((with_reducible refine' w_iteF ?f1 ?_); case f1 => (first | (intro h; cases h; done) | decide))
  | ((with_reducible refine' w_iteT ?f1 ?_); case f1 => rfl)
  | ((with_reducible refine' w_iteNF ?f1 ?_); case f1 => rfl)
  | ((with_reducible refine' w_iteNT ?f1 ?_); case f1 => (first | (intro h; cases h; done) | decide))
  | ((with_reducible refine' c_isi ?t1 ?k1 ?_); (case t1 => walk_at "ty"); (case k1 => walk_at "kit"))
  | ((with_reducible refine' w_eq ?e1 ?_); case e1 => rfl)
  | ((with_reducible refine' w_ne ?e1 ?_); case e1 => rfl)
  | walk_at "u1")
local macro_rules | `(tactic| walk_at "s") => `(tactic| repeat walk_at "s1")
local macro_rules | `(tactic| walk_at "mem") => `(tactic| first | with_reducible exact List.mem_cons_self .. | ((with_reducible refine' List.mem_cons_of_mem _ ?q); (case q => walk_at "mem")) | assumption | ((with_reducible refine' List.mem_append_right _ ?q); (case q => walk_at "mem")) | (exact List.mem_append_left _ (by assumption)))
local macro_rules | `(tactic| walk_at "pk") => `(tactic| first | with_reducible exact Pk.here | ((with_reducible refine' Pk.there ?q); (case q => walk_at "pk")) | ((with_reducible refine' Pk.app ?q); (case q => walk_at "pk")))
local macro_rules | `(tactic| walk_at "pkb") => `(tactic| first | with_reducible exact PkB.here | ((with_reducible refine' PkB.there ?q); (case q => walk_at "pkb")) | ((with_reducible refine' PkB.app ?q); (case q => walk_at "pkb")))
local macro_rules | `(tactic| walk_at "spl") => `(tactic| first | with_reducible exact Spl.nil | ((with_reducible refine' Spl.cons ?h ?t); (case h => walk_at "pk"); (case t => walk_at "spl")) | ((with_reducible refine' Spl.blk ?h ?t); (case h => walk_at "pkb"); (case t => walk_at "spl")))
local macro_rules | `(tactic| walk_at "sbx") => `(tactic| first | with_reducible exact Sb.refl | with_reducible exact Sb.nil | with_reducible exact Sb.left | ((with_reducible refine' Sb.cons ?h ?t); (case h => walk_at "pk"); (case t => walk_at "sbx")) | ((with_reducible refine' Sb.blk ?h ?t); (case h => walk_at "pkb"); (case t => walk_at "sbx")) | ((with_reducible refine' Sb.drop ?q); (case q => walk_at "sbx")) | ((with_reducible refine' Sb.right ?q); (case q => walk_at "sbx")))
local macro_rules | `(tactic| walk_at "hd") => `(tactic| first | assumption | exact Hd.sb (by assumption) (by walk_at "sbx"))
local macro_rules | `(tactic| walk_at "sq") => `(tactic| first
  | assumption
  | exact Hd.sqL (by assumption) (by walk_at "mem")
  | exact Hd.sqT (by assumption) (by walk_at "mem")
  | exact Hd.sqF (by assumption) (by walk_at "mem")
  | (refine .inl ?_; walk_at "sq")
  | (refine .inr ?_; walk_at "sq"))
local macro_rules | `(tactic| walk_at "at") => `(tactic| first | rfl | assumption | exact atI_nat (by assumption))
local macro_rules | `(tactic| walk_at "dn1") => `(tactic| first
  | exact Dn.int | exact Dn.str | exact Dn.non | exact Dn.bl | assumption
  | ((refine' Dn.tp ?a1 ?m1 ?l1 ?p1); (case a1 => assumption); (case m1 => walk_at "mem"); (case l1 => (simp only [List.length_cons, List.length_nil]; omega)); (case p1 => walk_at "dns"))
  | ((refine' Dn.lt ?a1 ?m1 ?l1 ?p1); (case a1 => assumption); (case m1 => walk_at "mem"); (case l1 => (simp only [List.length_cons, List.length_nil]; omega)); (case p1 => walk_at "dns")))
local macro_rules | `(tactic| walk_at "dns") => `(tactic| first | exact Paired.nil | exact Dn.ints | ((refine' Paired.cons ?a1 ?b1); (case a1 => walk_at "dn1"); (case b1 => walk_at "dns")))
local macro_rules | `(tactic| walk_at "g1") => `(tactic| first
  | ((with_reducible refine' g_ixI ?h1 ?h2 ?h3 ?_); (case h1 => assumption); (case h2 => walk_at "mem"); (case h3 => omega); intro z hz)
  | ((with_reducible refine' g_ixIT ?h1 ?h2 ?h3 ?_); (case h1 => assumption); (case h2 => walk_at "mem"); (case h3 => omega); intro z hz)
  | ((with_reducible refine' g_setI ?h1 ?h2 ?h3 ?_); (case h1 => assumption); (case h2 => walk_at "pk"); (case h3 => omega); intro H2 hh2)
  | ((with_reducible refine' w_ixL ?h1 ?h2 ?_); (case h1 => walk_at "sq"); (case h2 => walk_at "at"))
  | ((with_reducible refine' w_ixT ?h1 ?h2 ?_); (case h1 => walk_at "sq"); (case h2 => walk_at "at"))
  | ((with_reducible refine' w_ixAny ?h1 ?h2 ?_); (case h1 => walk_at "sq"); (case h2 => walk_at "at"))
  | ((with_reducible refine' c_lenA ?h1 ?_); (case h1 => walk_at "sq"))
  | ((with_reducible refine' c_isi ?t1 ?k1 ?_); (case t1 => first | exact ty_T (by walk_at "sq") | exact ty_L (by walk_at "sq")); (case k1 => walk_at "kit"))
  | ((with_reducible refine' g_lst ?h1 ?h2 ?_); (case h1 => assumption); (case h2 => walk_at "sz"); intro p H2 hh2)
  | ((with_reducible refine' g_tup ?h1 ?h2 ?_); (case h1 => assumption); (case h2 => walk_at "sz"); intro p H2 hh2)
  | ((with_reducible refine' g_dict ?h1 ?_); (case h1 => assumption); intro p H2 hh2)
  | ((with_reducible refine' g_listL ?h1 ?h2 ?_); (case h1 => assumption); (case h2 => walk_at "sq"); intro p H2 hh2)
  | ((with_reducible refine' g_listT ?h1 ?h2 ?_); (case h1 => assumption); (case h2 => walk_at "sq"); intro p H2 hh2)
  | ((with_reducible refine' g_tupL ?h1 ?h2 ?_); (case h1 => assumption); (case h2 => walk_at "sq"); intro p H2 hh2)
  | ((with_reducible refine' g_set ?h1 ?h2 ?h3 ?_); (case h1 => assumption); (case h2 => walk_at "pk"); (case h3 => first | rfl | assumption | exact Evl.ixN_nat (by first | omega | (simp only [List.length_cons, List.length_nil]; omega))); intro H2 hh2)
  | ((with_reducible refine' g_kbm ?h1 ?h2 ?_); (case h1 => assumption); (case h2 => walk_at "mem"))
  | ((with_reducible refine' g_kbm0 ?h1 ?h2 ?_); (case h1 => assumption); (case h2 => walk_at "mem"))
  | ((with_reducible refine' g_app ?h1 ?h2 ?h3 ?_); (case h1 => assumption); (case h2 => walk_at "pk"); (case h3 => walk_at "sz"); intro H2 hh2)
  | ((with_reducible refine' g_kapp ?h1 ?h2 ?h3 ?_); (case h1 => assumption); (case h2 => walk_at "pk"); (case h3 => walk_at "sz"); intro H2 hh2)
  | ((with_reducible refine' g_fld ?h1 ?h2 ?h3 ?h4 ?h5 ?_); (case h1 => assumption); (case h2 => walk_at "mem"); (case h3 => assumption); (case h4 => assumption); (case h5 => rfl))
  | ((with_reducible refine' g_sfld ?h1 ?h2 ?h3 ?h4 ?h5 ?_); (case h1 => assumption); (case h2 => walk_at "pk"); (case h3 => assumption); (case h4 => assumption); (case h5 => decide); intro H2 hh2)
  | ((with_reducible refine' g_meth ?h1 ?h2 ?h3 ?_); (case h1 => assumption); (case h2 => walk_at "mem"); (case h3 => rfl))
  | ((with_reducible refine' g_prop ?h1 ?h2 ?_); (case h1 => assumption); (case h2 => walk_at "mem"))
  | ((with_reducible refine' g_make ?h1 ?_); (case h1 => assumption); intro x H2 hh2)
  | ((with_reducible refine' g_cat ?h1 ?h2 ?h3 ?h4 ?_); (case h1 => assumption); (case h2 => walk_at "mem"); (case h3 => walk_at "mem"); (case h4 => walk_at "sz"); intro p H2 hh2)
  | ((with_reducible refine' g_inT ?h1 ?h2 ?h3 ?h4 ?h5 ?_); (case h1 => assumption); (case h2 => walk_at "mem"); (case h3 => rfl); (case h4 => rfl); (case h5 => rfl)))
local macro_rules | `(tactic| walk_at "gs") => `(tactic| repeat first | walk_at "s1" | walk_at "g1")
local macro_rules | `(tactic| walk_at "ite") => `(tactic| first
  | ((with_reducible refine' w_iteT ?h1 ?_); (case h1 => omega))
  | ((with_reducible refine' w_iteF ?h1 ?_); (case h1 => omega))
  | (with_reducible refine w_ite ?_ ?_ <;> intro hq)
  | ((with_reducible refine' w_iteNT ?h1 ?_); (case h1 => omega))
  | ((with_reducible refine' w_iteNF ?h1 ?_); (case h1 => omega))
  | (with_reducible refine w_iteN ?_ ?_ <;> intro hq))
local macro_rules | `(tactic| walk_at "go") => `(tactic| repeat' first | walk_at "s1" | walk_at "g1" | walk_at "ite")
local macro_rules | `(tactic| walk_at "g1") => `(tactic| first
  | ((with_reducible refine' g_take1 ?h1 ?h2 ?h3 ?h4 ?_); (case h1 => assumption); (case h2 => walk_at "spl"); (case h3 => omega); (case h4 => omega); intro k H2 hk1 hh2)
  | ((with_reducible refine' g_take ?h1 ?h2 ?h4 ?_); (case h1 => assumption); (case h2 => walk_at "spl"); (case h4 => omega); intro k H2 hk1 hh2)
  | ((with_reducible refine' g_betweenN ?h1 ?h2 ?h5 ?h3 ?h4 ?_); (case h1 => assumption); (case h2 => walk_at "spl"); (case h5 => omega); (case h3 => omega); (case h4 => omega); intro k H2 hk1 hk2 hh2)
  | ((with_reducible refine' g_between ?h1 ?h2 ?h3 ?h4 ?_); (case h1 => assumption); (case h2 => walk_at "spl"); (case h3 => omega); (case h4 => omega); intro k H2 hk1 hk2 hh2)
  | ((with_reducible refine' g_size ?h1 ?h2 ?h3 ?h4 ?_); (case h1 => assumption); (case h2 => walk_at "spl"); (case h3 => omega); (case h4 => omega); intro k H2 hk1 hh2)
  | ((with_reducible refine' g_word ?h1 ?h2 ?_); (case h1 => assumption); (case h2 => walk_at "spl"); intro k H2 hk1 hh2))
local macro_rules | `(tactic| walk_at "g1") => `(tactic| first | with_reducible refine w_sl ?_ | with_reducible refine w_part ?_ | with_reducible refine w_noPart ?_ | with_reducible refine w_exI ?_)
section
variable {P : Program} {w : World} {K : PySem.W.Frag} {mg : Str → Option Value} {base : Heap} {aREG aOPS : Addr}
theorem new_tup' {H H' : Hp} {L : List Cell} {t : Addr} {xs : List V} (h : Hd H L) (u : Upt [] H H') (n : H t = none) (e : H' t = some (.tup xs)) : Hd H' (tupC t xs :: L) := by
  have h' := h.upt0 u
  refine ⟨List.nodup_cons.mpr ⟨fun z => ?_, h'.nd⟩, fun c hc => ?_⟩
  · obtain ⟨c, hc, ec⟩ := List.mem_map.mp z
    obtain ⟨o, ho, _⟩ := h.at_ c hc
    rw [ec, show (tupC t xs).1 = t from rfl, n] at ho
    cases ho
  · rcases List.mem_cons.mp hc with rfl | hc
    · exact ⟨_, e, rfl⟩
    · exact h'.at_ c hc
theorem tab_put {H H' : Hp} {R : List Cell} {tP : Addr} (h : Hd H (tblC tP :: R)) (hT : GxR.TabG H' tP) (u : Upt [tP] H H') : Hd H' (tblC tP :: R) :=
  Hd.put (A := [tblC tP]) (B := [tblC tP]) h u (fun a ha => ha) (let ⟨ps, e, t⟩ := hT; Hd.one (c := tblC tP) e ⟨ps, rfl, t⟩) fun c hc => .inl (List.mem_map_of_mem hc)
section
variable {H : Hp} {L : List Cell} {Q : VK} {E : XK}
theorem g_copyZ {k : Nat} {v : V} {d : PyData} (hh : Hd H L) (h1 : Dn K [] H k v d) (q : ∀ v' Z H', Hd H' (Z ++ L) → Zc K Z k v' d → Q v' H') : sp_copy K (k + 1) [v] H Q E :=
  u_copy h1 fun v' H' u hd => by
    obtain ⟨Z, hz, hs, zz⟩ := (hd (L.map Prod.fst) (fun a ha => by
      obtain ⟨c, hc, rfl⟩ := List.mem_map.mp ha
      obtain ⟨o, ho, _⟩ := hh.at_ c hc
      exact ⟨o, ho⟩)).chunk
    exact q v' Z H' (Hd.join hz (hh.upt0 u) hs) zz
end
def isWD : PyData → Bool
  | .int i => decide ((0 : Int) ≤ i ∧ i ≤ 65535)
  | _ => false
/-- d is no list of at most mx words -/
def BadD (mx : Nat) : PyData → Prop
  | .list ds => mx < ds.length ∨ ∃ d ∈ ds, isWD d = false
  | _ => True
theorem isWD_eq {S : List Addr} {H : Hp} {v : V} {d : PyData} : ∀ {n : Nat}, Dn K S H n v d → isW v = isWD d
  | 0, h => by cases h <;> rfl
  | n + 1, h => by
    rcases h with h | ⟨a, xs, ds, e1, e2, _⟩ | ⟨a, xs, ds, e1, e2, _⟩
    · cases h <;> rfl
    · subst e1 e2; rfl
    · subst e1 e2; rfl
theorem paired_all {S : List Addr} {H : Hp} {n : Nat} : ∀ {xs : List V} {ds : List PyData}, Paired (Dn K S H n) xs ds → (∃ d ∈ ds, isWD d = false) → xs.all isW = false
  | _, _, .nil, ⟨_, h, _⟩ => absurd h (List.not_mem_nil)
  | x :: xs, _, .cons r t, ⟨d, h, hd⟩ => by
    rw [List.all_cons]
    rcases List.mem_cons.mp h with z | z
    · rw [isWD_eq r, ← z, hd]; rfl
    · rw [paired_all t ⟨d, z, hd⟩, Bool.and_false]
theorem paired_kh {H : Hp} {n : Nat} : ∀ {xs : List V} {ds : List PyData}, Paired (Dn K [] H n) xs ds → ∀ v ∈ xs, ∃ t, KH K H v t
  | _, _, .nil, v, h => absurd h (List.not_mem_nil)
  | _, _, .cons r t, v, h => by
    rcases List.mem_cons.mp h with z | z
    · exact z ▸ dn_kh r
    · exact paired_kh t v z
theorem BadD.wm {H : Hp} {n mx : Nat} {v : V} {d : PyData} (h : Dn K [] H (n + 1) v d) (b : BadD mx d) : BadWm K mx H v := by
  rcases h with h | ⟨a, xs, ds, e1, e2, ha, hq, hl, p⟩ | ⟨a, xs, ds, e1, e2, ha, hq, hl, p⟩
  · cases h with
    | non => exact .inl ⟨_, ty_non, by decide +kernel⟩
    | bl b => exact .inl ⟨_, ty_bl, by decide +kernel⟩
    | int i => exact .inl ⟨_, ty_int, by decide +kernel⟩
    | str z => exact .inl ⟨_, ty_str, by decide +kernel⟩
  · subst e1 e2
    refine .inr ⟨a, xs, rfl, hq, ?_⟩
    rcases b with b | b
    · exact .inl (by rw [p.length]; exact b)
    · exact .inr ⟨paired_all p b, paired_kh p⟩
  · subst e1
    exact .inl ⟨_, ty_T hq, by decide +kernel⟩
section
variable {CE W fI fE tP : Addr} {fdE : FuncData}
/-- a datum that is no list of words -/
def sp_calledX (K : PySem.W.Frag) (tP : Addr) : Sp := fun vs H Q _ => ∃ (v : V) (d : PyData) (R : List Cell) (z : Str), ((vs = [.str "unpack", v, .int 0] ∧ z = "words" ∧ BadD 400 d) ∨ (vs = [.str "pack", v, .int 1] ∧ z = "letter" ∧ BadD 7 d)) ∧ (∀ H', Hd H' R → Dn K [] H' 2 v d) ∧ Hd H (tblC tP :: R) ∧
  ∀ t H', Hd H' (tupC t [.str "BadArgument", .str z] :: tblC tP :: R) → Q (.ref t) H'
theorem b_calledX (T : Txt K mg aREG aOPS) (R : ErrC K mg CE W fI) (c__law_copy : C8.Cal P w K mg base 3 "_law_copy" (sp_copy K 3) []) (c__law_alike : C8.Cal P w K mg base 2 "_law_alike" (sp_alike K 2) [])
    (c_pack_letter : C8.Cal P w K mg base 7 "pack_letter" (sp_pack tP) []) (cx_pack : CalKN P w K mg base 7 "pack_letter" (sp_packX K CE tP) 0 ["letter"] (fun _ zs => zs)) (cx_unpack : CalN P w K mg base 7 "unpack_letters" (sp_unpX K CE tP)) (ck_unpack_letters_words : CalK P w K mg base 7 "unpack_letters" (sp_unpack tP) 0 ["words"] (fun _ zs => zs))
    (F_err : FnE P w K mg base C8.CX0 1 fE fdE ["e"] (sp_err CE)) (F_errM : mg "_law_refusal" = some (.ref fE)) (F_errK : PySem.W.keepIn K (.ref fE) = true) (F_errB : Binds K fdE ["e"] [])
    (f : Addr) (cdv : Value) (A : Around) (outer : List Env) (s : Shared) (H : Hp) (vs : List V) (Q : VK) (E : XK) (hr : Room 7 (A.deeper (envOfC "_law_called" (defScope s__law_called) s.heap.objs.size f cdv))) (h : sp_calledX K tP vs H Q E) :
    ∃ t, PSs (cxOf C8.CX0 P w K mg base nm__law_called "_law_called" (defScope s__law_called) f cdv A outer s H E).nox (defBody s__law_called) t ∧ t { nx := fun _ H' => Q .non H', rt := Q } (L2.start nm__law_called vs) H := by
  obtain ⟨v, d, R0, z, hv, hd, hh, q⟩ := h
  rcases hv with ⟨rfl, rfl, hb⟩ | ⟨rfl, rfl, hb⟩
  · refine ⟨_, (pss_cons (ps_set (i := 3) sc__law_called.nd rfl (Or.inl rfl) (C8.pe_c c__law_copy hr (by first | decide | omega) rfl (pa_cons (pv 1) pa_nil)))
  (pss_cons (L2N.ps_try_as rfl rfl sc__law_called.nd (i := 5) rfl rfl ⟨rfl, by decide, .inl R.g_W⟩ takes0N (fun W pn xe tk pw => (pss_one (ps_if (PW.pt (pw_and (pt_cmpR op_eq (pv 0) pe_str (nomark _)) (pw_and1 (pt_cmpR op_eq (pv 2) pe_int (nomark _)))))
        (pss_one (ps_set (i := 4) sc__law_called.nd rfl (Or.inl rfl) (pe_tup (pa_cons pe_str (pa_cons (pe_ckN cx_pack hr (by first | decide | omega) tk rfl (pk_cons (pv 3) pk_nil)) pa_nil)))))
        (pss_one (ps_if (pt_cmpR op_eq (pv 0) pe_str (nomark _))
            (pss_one (ps_set (i := 4) sc__law_called.nd rfl (Or.inl rfl) (pe_tup (pa_cons pe_str (pa_cons (C8.pe_c c_pack_letter hr (by first | decide | omega) rfl (pa_cons (pv 3) pa_nil)) pa_nil)))))
            (pss_one (ps_if (pt_cmpR op_eq (pv 2) pe_int (nomark _))
                (pss_one (ps_set (i := 4) sc__law_called.nd rfl (Or.inl rfl) (pe_tup (pa_cons pe_str (pa_cons (Wk.pe_ck ck_unpack_letters_words hr (by first | decide | omega) rfl (pk_cons (pv 3) pk_nil)) pa_nil)))))
                (pss_one (ps_set (i := 4) sc__law_called.nd rfl (Or.inl rfl) (pe_tup (pa_cons pe_str (pa_cons (pe_cN cx_unpack hr (by first | decide | omega) tk rfl (pa_cons (pv 3) pa_nil)) pa_nil)))))))))))) (fun a oe cls d pn hz hf => pss_one (ps_ret (pe_callE (E := fun _ => C8.E0) (imp_err hz hf) F_err (rH hr) (hot_err hz hf) (List.mem_cons_self ..) rfl F_errM F_errK F_errB (fun _ _ _ _ _ _ _ h => h.elim) (pa_cons (pv 5) pa_nil)))))
  (pss_cons (ps_if (pt_not (pt_val (C8.pe_c c__law_alike hr (by first | decide | omega) rfl (pa_cons (pv 1) (pa_cons (pv 3) pa_nil)))))
    (pss_one (ps_ret (pe_tup (pa_cons pe_str pa_nil))))
    pss_nil)
  (pss_one (ps_ret (pv 4)))))), ?_⟩
    walk_at "gs"
    refine g_copyZ hh (hd _ hh.tail) fun v' Z H1 h1 hz => ?_
    have hw := BadD.wm (hz _ h1.left) hb
    have h1 := Hd.sb (A := tblC tP :: R0) h1 (by walk_at "sbx")
    walk_at "gs"
    unfold tCallS
    walk_at "gs"
    refine ⟨v', rfl, .inl ⟨hw, h1.tbl (List.mem_cons_self ..), fun H2 H' d hT1 U1 nd => ⟨true, R.exW, fun _ ea hea => ?_, fun z => nomatch z⟩⟩⟩
    have h2 := (tab_put h1 hT1 U1).upt0 nd.keep
    walk_at "gs"
    refine ⟨d, "words", rfl, rfl, rfl, nd.at_, fun t2 H3 u ht e' => ?_⟩
    exact q t2 H3 (new_tup' h2 u ht e')
  · refine ⟨_, (pss_cons (ps_set (i := 3) sc__law_called.nd rfl (Or.inl rfl) (C8.pe_c c__law_copy hr (by first | decide | omega) rfl (pa_cons (pv 1) pa_nil)))
  (pss_cons (L2N.ps_try_as rfl rfl sc__law_called.nd (i := 5) rfl rfl ⟨rfl, by decide, .inl R.g_W⟩ takes0N (fun W pn xe tk pw => (pss_one (ps_if (PW.pt (pw_and (pt_cmpR op_eq (pv 0) pe_str (nomark _)) (pw_and1 (pt_cmpR op_eq (pv 2) pe_int (nomark _)))))
        (pss_one (ps_set (i := 4) sc__law_called.nd rfl (Or.inl rfl) (pe_tup (pa_cons pe_str (pa_cons (pe_ckN cx_pack hr (by first | decide | omega) tk rfl (pk_cons (pv 3) pk_nil)) pa_nil)))))
        (pss_one (ps_if (pt_cmpR op_eq (pv 0) pe_str (nomark _))
            (pss_one (ps_set (i := 4) sc__law_called.nd rfl (Or.inl rfl) (pe_tup (pa_cons pe_str (pa_cons (C8.pe_c c_pack_letter hr (by first | decide | omega) rfl (pa_cons (pv 3) pa_nil)) pa_nil)))))
            (pss_one (ps_if (pt_cmpR op_eq (pv 2) pe_int (nomark _))
                (pss_one (ps_set (i := 4) sc__law_called.nd rfl (Or.inl rfl) (pe_tup (pa_cons pe_str (pa_cons (Wk.pe_ck ck_unpack_letters_words hr (by first | decide | omega) rfl (pk_cons (pv 3) pk_nil)) pa_nil)))))
                (pss_one (ps_set (i := 4) sc__law_called.nd rfl (Or.inl rfl) (pe_tup (pa_cons pe_str (pa_cons (pe_cN cx_unpack hr (by first | decide | omega) tk rfl (pa_cons (pv 3) pa_nil)) pa_nil)))))))))))) (fun a oe cls d pn hz hf => pss_one (ps_ret (pe_callE (E := fun _ => C8.E0) (imp_err hz hf) F_err (rH hr) (hot_err hz hf) (List.mem_cons_self ..) rfl F_errM F_errK F_errB (fun _ _ _ _ _ _ _ h => h.elim) (pa_cons (pv 5) pa_nil)))))
  (pss_cons (ps_if (pt_not (pt_val (C8.pe_c c__law_alike hr (by first | decide | omega) rfl (pa_cons (pv 1) (pa_cons (pv 3) pa_nil)))))
    (pss_one (ps_ret (pe_tup (pa_cons pe_str pa_nil))))
    pss_nil)
  (pss_one (ps_ret (pv 4)))))), ?_⟩
    walk_at "gs"
    refine g_copyZ hh (hd _ hh.tail) fun v' Z H1 h1 hz => ?_
    have hw := BadD.wm (hz _ h1.left) hb
    have h1 := Hd.sb (A := tblC tP :: R0) h1 (by walk_at "sbx")
    walk_at "gs"
    unfold tCallKS
    walk_at "gs"
    refine ⟨rfl, v', rfl, hw, h1.tbl (List.mem_cons_self ..), fun H2 H' d hT1 U1 nd => ⟨true, R.exW, fun _ ea hea => ?_, fun z => nomatch z⟩⟩
    have h2 := (tab_put h1 hT1 U1).upt0 nd.keep
    walk_at "gs"
    unfold tCallS
    walk_at "gs"
    refine ⟨d, "letter", rfl, rfl, rfl, nd.at_, fun t2 H3 u ht e' => ?_⟩
    exact q t2 H3 (new_tup' h2 u ht e')
/-- words with a length above seven where a letter begins -/
def sp_calledS (K : PySem.W.Frag) (tP : Addr) : Sp := fun vs H Q _ => ∃ (a : Addr) (ws : List Int) (R : List Cell), vs = [.str "unpack", .ref a, .int 0] ∧ ws.length ≤ 400 ∧ (∀ x ∈ ws, (0 : Int) ≤ x ∧ x ≤ 65535) ∧ Spo ws ∧ (∀ H', Hd H' R → SqL K H' a (ws.map V.int)) ∧ Hd H (tblC tP :: R) ∧
  ∀ t H', Hd H' (tupC t [.str "BadArgument", .str "words"] :: tblC tP :: R) → Q (.ref t) H'
theorem b_calledS (T : Txt K mg aREG aOPS) (R : ErrC K mg CE W fI) (c__law_copy : C8.Cal P w K mg base 2 "_law_copy" (sp_copyL K 0) []) (c__law_alike : C8.Cal P w K mg base 2 "_law_alike" (sp_alike K 2) [])
    (c_pack_letter : C8.Cal P w K mg base 7 "pack_letter" (sp_pack tP) []) (cx_pack : CalKN P w K mg base 7 "pack_letter" (sp_packX K CE tP) 0 ["letter"] (fun _ zs => zs)) (cx_unpack : CalN P w K mg base 7 "unpack_letters" (sp_unpX K CE tP)) (ck_unpack_letters_words : CalK P w K mg base 7 "unpack_letters" (sp_unpack tP) 0 ["words"] (fun _ zs => zs))
    (F_err : FnE P w K mg base C8.CX0 1 fE fdE ["e"] (sp_err CE)) (F_errM : mg "_law_refusal" = some (.ref fE)) (F_errK : PySem.W.keepIn K (.ref fE) = true) (F_errB : Binds K fdE ["e"] [])
    (f : Addr) (cdv : Value) (A : Around) (outer : List Env) (s : Shared) (H : Hp) (vs : List V) (Q : VK) (E : XK) (hr : Room 7 (A.deeper (envOfC "_law_called" (defScope s__law_called) s.heap.objs.size f cdv))) (h : sp_calledS K tP vs H Q E) :
    ∃ t, PSs (cxOf C8.CX0 P w K mg base nm__law_called "_law_called" (defScope s__law_called) f cdv A outer s H E).nox (defBody s__law_called) t ∧ t { nx := fun _ H' => Q .non H', rt := Q } (L2.start nm__law_called vs) H := by
  obtain ⟨a, ws, R0, rfl, hl, hw, hu, hs, hh, q⟩ := h
  refine ⟨_, (pss_cons (ps_set (i := 3) sc__law_called.nd rfl (Or.inl rfl) (C8.pe_c c__law_copy hr (by first | decide | omega) rfl (pa_cons (pv 1) pa_nil)))
  (pss_cons (L2N.ps_try_as rfl rfl sc__law_called.nd (i := 5) rfl rfl ⟨rfl, by decide, .inl R.g_W⟩ takes0N (fun W pn xe tk pw => (pss_one (ps_if (PW.pt (pw_and (pt_cmpR op_eq (pv 0) pe_str (nomark _)) (pw_and1 (pt_cmpR op_eq (pv 2) pe_int (nomark _)))))
        (pss_one (ps_set (i := 4) sc__law_called.nd rfl (Or.inl rfl) (pe_tup (pa_cons pe_str (pa_cons (pe_ckN cx_pack hr (by first | decide | omega) tk rfl (pk_cons (pv 3) pk_nil)) pa_nil)))))
        (pss_one (ps_if (pt_cmpR op_eq (pv 0) pe_str (nomark _))
            (pss_one (ps_set (i := 4) sc__law_called.nd rfl (Or.inl rfl) (pe_tup (pa_cons pe_str (pa_cons (C8.pe_c c_pack_letter hr (by first | decide | omega) rfl (pa_cons (pv 3) pa_nil)) pa_nil)))))
            (pss_one (ps_if (pt_cmpR op_eq (pv 2) pe_int (nomark _))
                (pss_one (ps_set (i := 4) sc__law_called.nd rfl (Or.inl rfl) (pe_tup (pa_cons pe_str (pa_cons (Wk.pe_ck ck_unpack_letters_words hr (by first | decide | omega) rfl (pk_cons (pv 3) pk_nil)) pa_nil)))))
                (pss_one (ps_set (i := 4) sc__law_called.nd rfl (Or.inl rfl) (pe_tup (pa_cons pe_str (pa_cons (pe_cN cx_unpack hr (by first | decide | omega) tk rfl (pa_cons (pv 3) pa_nil)) pa_nil)))))))))))) (fun a oe cls d pn hz hf => pss_one (ps_ret (pe_callE (E := fun _ => C8.E0) (imp_err hz hf) F_err (rH hr) (hot_err hz hf) (List.mem_cons_self ..) rfl F_errM F_errK F_errB (fun _ _ _ _ _ _ _ h => h.elim) (pa_cons (pv 5) pa_nil)))))
  (pss_cons (ps_if (pt_not (pt_val (C8.pe_c c__law_alike hr (by first | decide | omega) rfl (pa_cons (pv 1) (pa_cons (pv 3) pa_nil)))))
    (pss_one (ps_ret (pe_tup (pa_cons pe_str pa_nil))))
    pss_nil)
  (pss_one (ps_ret (pv 4)))))), ?_⟩
  walk_at "gs"
  refine g_copyL (ds := ws.map PyData.int) hh (hs _ hh.tail) (by rw [List.length_map]; omega) Dn.ints fun D acc Z H1 hz h1 => ?_
  obtain rfl := Paired.ints_inv (hz _ (Hd.sb h1 (by walk_at "sbx")))
  have h1 := Hd.sb (A := lstC D (ws.map V.int) :: tblC tP :: R0) h1 (by walk_at "sbx")
  walk_at "gs"
  unfold tCallS
  walk_at "gs"
  refine ⟨_, rfl, .inr ⟨D, ws, R0, rfl, hl, hw, hu, h1, fun H2 H' d h2 nd => ⟨true, R.exW, fun _ ea hea => ?_, fun z => nomatch z⟩⟩⟩
  have h3 := (Hd.sb (A := tblC tP :: R0) h2 (by walk_at "sbx")).upt0 nd.keep
  walk_at "gs"
  refine ⟨d, "words", rfl, rfl, rfl, nd.at_, fun t2 H3 u ht e' => ?_⟩
  exact q t2 H3 (new_tup' h3 u ht e')
end
theorem paired_set {α β : Type} {F : α → β → Prop} {x : α} {y : β} : ∀ {xs : List α} {ys : List β} {k : Nat}, Paired F xs ys → F x y → Paired F (xs.set k x) (ys.set k y)
  | _, _, _, .nil, _ => .nil
  | _, _, 0, .cons r t, h => .cons h t
  | _, _, _ + 1, .cons r t, h => .cons r (paired_set t h)
end
end K46
set_option Elab.async false
set_option linter.all false
set_option maxRecDepth 100000
set_option maxHeartbeats 4000000
namespace K46
open PySem PySem.Spec PyProof.Rows L2 Wk
local macro_rules | `(tactic| walk_at "u1") => `(tactic| fail "no more")
local macro_rules | `(tactic| walk_at "pos") => `(tactic| first | assumption | omega | decide | (simp only [Int.ofNat_eq_natCast] at *; omega))
local macro_rules | `(tactic| walk_at "sz") => `(tactic| first
  | (simp only [List.length_cons, List.length_nil]; decide)
  | exact Evl.sz_of (by omega)
  | exact Evl.sz_lt (by omega)
  | exact Evl.sz_of (by simp only [List.length_map, List.length_append, List.length_cons, List.length_nil, List.length_replicate]; omega)
  | exact Evl.sz_lt (by simp only [List.length_map, List.length_append, List.length_cons, List.length_nil, List.length_replicate]; omega))
local macro_rules | `(tactic| walk_at "cond") => `(tactic| first
  | exact Or.inr ⟨by decide, by decide⟩
  | (show (0 : Int) < _; first | decide | assumption | omega)
  | exact Or.inl ⟨by omega, by omega⟩
  | exact Or.inr ⟨by omega, by omega⟩
  | exact ⟨by decide, by decide, by decide⟩
  | exact log2_lt (by omega) (by omega)
  | exact ⟨by omega, by omega⟩)
local macro_rules | `(tactic| walk_at "ty") => `(tactic| first
  | exact ty_int | exact ty_bl | exact ty_str | exact ty_non
  | exact ty_L (by assumption) | exact ty_T (by assumption)
  | exact ty_L (SqL.of (by assumption)) | exact ty_T (SqT.of (by assumption)))
local macro_rules | `(tactic| walk_at "kit") => `(tactic| first
  | exact k_ii | exact k_ib | exact k_is | exact k_il | exact k_it
  | exact k_bb | exact k_bi | exact k_bs | exact k_bl | exact k_bt
  | exact k_ss | exact k_sb | exact k_si | exact k_sl | exact k_st
  | exact k_ll | exact k_lb | exact k_li | exact k_ls | exact k_lt
  | exact k_tt | exact k_tb | exact k_ti | exact k_ts | exact k_tl
  | exact k_nn | exact k_ni | exact k_ns | exact k_nl | exact k_nt)
local macro_rules | `(tactic| walk_at "s1") => `(tactic| first
  | with_reducible refine w_seq ?_
  | with_reducible refine w_set ?_
  | with_reducible refine w_op ?_
  | ((with_reducible refine' w_var ?h1 ?_); (case h1 => rfl))
  | with_reducible refine w_c ?_
  | with_reducible refine w_cb ?_
  | with_reducible refine w_cons ?_
  | with_reducible refine w_nil ?_
  | with_reducible refine w_I0 ?_
  | ((with_reducible refine' w_I ?c1 ?_); case c1 => walk_at "cond")
  | with_reducible refine w_ret ?_
  | with_reducible refine w_next ?_
  | with_reducible refine w_ifS ?_
  | with_reducible refine w_test ?_
  | with_reducible refine w_tB ?_
  | with_reducible refine w_k ?_
  | with_reducible refine w_eqI ?_
  | with_reducible refine w_neI ?_
  | with_reducible refine w_eqS ?_
  | with_reducible refine w_neS ?_
  | with_reducible refine w_and ?_
  | with_reducible refine w_or ?_
  | with_reducible refine w_not ?_
  | with_reducible refine w_andV ?_
  | with_reducible refine w_orV ?_
  | with_reducible refine w_notV ?_
  | with_reducible refine w_ifE ?_
  | with_reducible refine w_true ?_
  | with_reducible refine w_false ?_
  | with_reducible refine w_ntrue ?_
  | with_reducible refine w_nfalse ?_
  | with_reducible refine w_call ?_
  | with_reducible refine c_int ?_
  | with_reducible refine c_abs ?_
  | with_reducible refine c_max ?_
  | with_reducible refine c_min ?_
  | with_reducible refine w_drop ?_
  | with_reducible refine w_sfld ?_
  | with_reducible refine w_meth ?_
  | with_reducible refine w_make ?_
  | with_reducible refine w_prop ?_
  | with_reducible refine w_callK ?_
  | with_reducible refine w_callN ?_
  | with_reducible refine w_star ?_
  | with_reducible refine w_gcons ?_
  | with_reducible refine w_gname ?_
  | with_reducible refine w_gnil ?_
  | with_reducible refine w_retN ?_
  | with_reducible refine w_tup ?_
  | with_reducible refine w_lst ?_
  | with_reducible refine w_fld ?_
  | with_reducible refine w_bm ?_
  | with_reducible refine w_bm0 ?_
  | with_reducible refine w_forL ?_
  | with_reducible refine w_forT ?_
  | with_reducible refine w_forS ?_
  | with_reducible refine w_forR ?_
  | with_reducible refine w_lcR ?_
  | with_reducible refine w_lcL ?_
  | with_reducible refine w_lcT ?_
  | with_reducible refine w_isN ?_
  | with_reducible refine w_notN ?_
  | with_reducible refine w_asg ?_
  | with_reducible refine w_gsub ?_
  | ((with_reducible refine' w_aug ?h1 ?_); (case h1 => rfl))
  | with_reducible refine w_augS ?_
  | with_reducible refine w_ipI ?_
  | with_reducible refine w_un ?_
  | with_reducible refine w_U ?_
  | ((with_reducible refine' w_iteF ?f1 ?_); case f1 => (first | (intro h; cases h; done) | decide))
  | ((with_reducible refine' w_iteT ?f1 ?_); case f1 => rfl)
  | ((with_reducible refine' w_iteNF ?f1 ?_); case f1 => rfl)
  | ((with_reducible refine' w_iteNT ?f1 ?_); case f1 => (first | (intro h; cases h; done) | decide))
  | ((with_reducible refine' c_isi ?t1 ?k1 ?_); (case t1 => walk_at "ty"); (case k1 => walk_at "kit"))
  | ((with_reducible refine' w_eq ?e1 ?_); case e1 => rfl)
  | ((with_reducible refine' w_ne ?e1 ?_); case e1 => rfl)
  | walk_at "u1")
local macro_rules | `(tactic| walk_at "s") => `(tactic| repeat walk_at "s1")
local macro_rules | `(tactic| walk_at "mem") => `(tactic| first | with_reducible exact List.mem_cons_self .. | ((with_reducible refine' List.mem_cons_of_mem _ ?q); (case q => walk_at "mem")) | assumption | ((with_reducible refine' List.mem_append_right _ ?q); (case q => walk_at "mem")) | (exact List.mem_append_left _ (by assumption)))
local macro_rules | `(tactic| walk_at "pk") => `(tactic| first | with_reducible exact Pk.here | ((with_reducible refine' Pk.there ?q); (case q => walk_at "pk")) | ((with_reducible refine' Pk.app ?q); (case q => walk_at "pk")))
local macro_rules | `(tactic| walk_at "pkb") => `(tactic| first | with_reducible exact PkB.here | ((with_reducible refine' PkB.there ?q); (case q => walk_at "pkb")) | ((with_reducible refine' PkB.app ?q); (case q => walk_at "pkb")))
local macro_rules | `(tactic| walk_at "spl") => `(tactic| first | with_reducible exact Spl.nil | ((with_reducible refine' Spl.cons ?h ?t); (case h => walk_at "pk"); (case t => walk_at "spl")) | ((with_reducible refine' Spl.blk ?h ?t); (case h => walk_at "pkb"); (case t => walk_at "spl")))
local macro_rules | `(tactic| walk_at "sbx") => `(tactic| first | with_reducible exact Sb.refl | with_reducible exact Sb.nil | with_reducible exact Sb.left | ((with_reducible refine' Sb.cons ?h ?t); (case h => walk_at "pk"); (case t => walk_at "sbx")) | ((with_reducible refine' Sb.blk ?h ?t); (case h => walk_at "pkb"); (case t => walk_at "sbx")) | ((with_reducible refine' Sb.drop ?q); (case q => walk_at "sbx")) | ((with_reducible refine' Sb.right ?q); (case q => walk_at "sbx")))
local macro_rules | `(tactic| walk_at "hd") => `(tactic| first | assumption | exact Hd.sb (by assumption) (by walk_at "sbx"))
local macro_rules | `(tactic| walk_at "sq") => `(tactic| first
  | assumption
  | exact Hd.sqL (by assumption) (by walk_at "mem")
  | exact Hd.sqT (by assumption) (by walk_at "mem")
  | exact Hd.sqF (by assumption) (by walk_at "mem")
  | (refine .inl ?_; walk_at "sq")
  | (refine .inr ?_; walk_at "sq"))
local macro_rules | `(tactic| walk_at "at") => `(tactic| first | rfl | assumption | exact atI_nat (by assumption))
local macro_rules | `(tactic| walk_at "dn1") => `(tactic| first
  | exact Dn.int | exact Dn.str | exact Dn.non | exact Dn.bl | assumption
  | ((refine' Dn.tp ?a1 ?m1 ?l1 ?p1); (case a1 => assumption); (case m1 => walk_at "mem"); (case l1 => (simp only [List.length_cons, List.length_nil]; omega)); (case p1 => walk_at "dns"))
  | ((refine' Dn.lt ?a1 ?m1 ?l1 ?p1); (case a1 => assumption); (case m1 => walk_at "mem"); (case l1 => (simp only [List.length_cons, List.length_nil]; omega)); (case p1 => walk_at "dns")))
local macro_rules | `(tactic| walk_at "dns") => `(tactic| first | exact Paired.nil | exact Dn.ints | ((refine' Paired.cons ?a1 ?b1); (case a1 => walk_at "dn1"); (case b1 => walk_at "dns")))
local macro_rules | `(tactic| walk_at "g1") => `(tactic| first
  | ((with_reducible refine' g_ixI ?h1 ?h2 ?h3 ?_); (case h1 => assumption); (case h2 => walk_at "mem"); (case h3 => omega); intro z hz)
  | ((with_reducible refine' g_ixIT ?h1 ?h2 ?h3 ?_); (case h1 => assumption); (case h2 => walk_at "mem"); (case h3 => omega); intro z hz)
  | ((with_reducible refine' g_setI ?h1 ?h2 ?h3 ?_); (case h1 => assumption); (case h2 => walk_at "pk"); (case h3 => omega); intro H2 hh2)
  | ((with_reducible refine' w_ixL ?h1 ?h2 ?_); (case h1 => walk_at "sq"); (case h2 => walk_at "at"))
  | ((with_reducible refine' w_ixT ?h1 ?h2 ?_); (case h1 => walk_at "sq"); (case h2 => walk_at "at"))
  | ((with_reducible refine' w_ixAny ?h1 ?h2 ?_); (case h1 => walk_at "sq"); (case h2 => walk_at "at"))
  | ((with_reducible refine' c_lenA ?h1 ?_); (case h1 => walk_at "sq"))
  | ((with_reducible refine' c_isi ?t1 ?k1 ?_); (case t1 => first | exact ty_T (by walk_at "sq") | exact ty_L (by walk_at "sq")); (case k1 => walk_at "kit"))
  | ((with_reducible refine' g_lst ?h1 ?h2 ?_); (case h1 => assumption); (case h2 => walk_at "sz"); intro p H2 hh2)
  | ((with_reducible refine' g_tup ?h1 ?h2 ?_); (case h1 => assumption); (case h2 => walk_at "sz"); intro p H2 hh2)
  | ((with_reducible refine' g_dict ?h1 ?_); (case h1 => assumption); intro p H2 hh2)
  | ((with_reducible refine' g_listL ?h1 ?h2 ?_); (case h1 => assumption); (case h2 => walk_at "sq"); intro p H2 hh2)
  | ((with_reducible refine' g_listT ?h1 ?h2 ?_); (case h1 => assumption); (case h2 => walk_at "sq"); intro p H2 hh2)
  | ((with_reducible refine' g_tupL ?h1 ?h2 ?_); (case h1 => assumption); (case h2 => walk_at "sq"); intro p H2 hh2)
  | ((with_reducible refine' g_set ?h1 ?h2 ?h3 ?_); (case h1 => assumption); (case h2 => walk_at "pk"); (case h3 => first | rfl | assumption | exact Evl.ixN_nat (by first | omega | (simp only [List.length_cons, List.length_nil]; omega))); intro H2 hh2)
  | ((with_reducible refine' g_kbm ?h1 ?h2 ?_); (case h1 => assumption); (case h2 => walk_at "mem"))
  | ((with_reducible refine' g_kbm0 ?h1 ?h2 ?_); (case h1 => assumption); (case h2 => walk_at "mem"))
  | ((with_reducible refine' g_app ?h1 ?h2 ?h3 ?_); (case h1 => assumption); (case h2 => walk_at "pk"); (case h3 => walk_at "sz"); intro H2 hh2)
  | ((with_reducible refine' g_kapp ?h1 ?h2 ?h3 ?_); (case h1 => assumption); (case h2 => walk_at "pk"); (case h3 => walk_at "sz"); intro H2 hh2)
  | ((with_reducible refine' g_fld ?h1 ?h2 ?h3 ?h4 ?h5 ?_); (case h1 => assumption); (case h2 => walk_at "mem"); (case h3 => assumption); (case h4 => assumption); (case h5 => rfl))
  | ((with_reducible refine' g_sfld ?h1 ?h2 ?h3 ?h4 ?h5 ?_); (case h1 => assumption); (case h2 => walk_at "pk"); (case h3 => assumption); (case h4 => assumption); (case h5 => decide); intro H2 hh2)
  | ((with_reducible refine' g_meth ?h1 ?h2 ?h3 ?_); (case h1 => assumption); (case h2 => walk_at "mem"); (case h3 => rfl))
  | ((with_reducible refine' g_prop ?h1 ?h2 ?_); (case h1 => assumption); (case h2 => walk_at "mem"))
  | ((with_reducible refine' g_make ?h1 ?_); (case h1 => assumption); intro x H2 hh2)
  | ((with_reducible refine' g_cat ?h1 ?h2 ?h3 ?h4 ?_); (case h1 => assumption); (case h2 => walk_at "mem"); (case h3 => walk_at "mem"); (case h4 => walk_at "sz"); intro p H2 hh2)
  | ((with_reducible refine' g_inT ?h1 ?h2 ?h3 ?h4 ?h5 ?_); (case h1 => assumption); (case h2 => walk_at "mem"); (case h3 => rfl); (case h4 => rfl); (case h5 => rfl)))
local macro_rules | `(tactic| walk_at "gs") => `(tactic| repeat first | walk_at "s1" | walk_at "g1")
local macro_rules | `(tactic| walk_at "ite") => `(tactic| first
  | ((with_reducible refine' w_iteT ?h1 ?_); (case h1 => omega))
  | ((with_reducible refine' w_iteF ?h1 ?_); (case h1 => omega))
  | (with_reducible refine w_ite ?_ ?_ <;> intro hq)
  | ((with_reducible refine' w_iteNT ?h1 ?_); (case h1 => omega))
  | ((with_reducible refine' w_iteNF ?h1 ?_); (case h1 => omega))
  | (with_reducible refine w_iteN ?_ ?_ <;> intro hq))
local macro_rules | `(tactic| walk_at "go") => `(tactic| repeat' first | walk_at "s1" | walk_at "g1" | walk_at "ite")
local macro_rules | `(tactic| walk_at "g1") => `(tactic| first
  | ((with_reducible refine' g_take1 ?h1 ?h2 ?h3 ?h4 ?_); (case h1 => assumption); (case h2 => walk_at "spl"); (case h3 => omega); (case h4 => omega); intro k H2 hk1 hh2)
  | ((with_reducible refine' g_take ?h1 ?h2 ?h4 ?_); (case h1 => assumption); (case h2 => walk_at "spl"); (case h4 => omega); intro k H2 hk1 hh2)
  | ((with_reducible refine' g_betweenN ?h1 ?h2 ?h5 ?h3 ?h4 ?_); (case h1 => assumption); (case h2 => walk_at "spl"); (case h5 => omega); (case h3 => omega); (case h4 => omega); intro k H2 hk1 hk2 hh2)
  | ((with_reducible refine' g_between ?h1 ?h2 ?h3 ?h4 ?_); (case h1 => assumption); (case h2 => walk_at "spl"); (case h3 => omega); (case h4 => omega); intro k H2 hk1 hk2 hh2)
  | ((with_reducible refine' g_size ?h1 ?h2 ?h3 ?h4 ?_); (case h1 => assumption); (case h2 => walk_at "spl"); (case h3 => omega); (case h4 => omega); intro k H2 hk1 hh2)
  | ((with_reducible refine' g_word ?h1 ?h2 ?_); (case h1 => assumption); (case h2 => walk_at "spl"); intro k H2 hk1 hh2))
section
variable {P : Program} {w : World} {K : PySem.W.Frag} {mg : Str → Option Value} {base : Heap} {aREG aOPS : Addr}
/-- v is no integer from lo to hi; what it is made of stands in Z -/
def WrongD (K : PySem.W.Frag) (Z : List Cell) (lo hi : Int) (v : V) : Prop := isR v lo hi = false ∧ ∃ d, Zc K Z 1 v d
def sp_wrongD (K : PySem.W.Frag) : Sp := fun vs H Q _ => ∃ (st c : Addr) (lo hi : Int) (R : List Cell), vs = [.ref st, .int lo, .int hi] ∧ 0 ≤ lo ∧ lo ≤ hi ∧ hi ≤ 65535 ∧ Hd H (stoC st c :: scrC c :: R) ∧
  ∀ (v : V) (Z : List Cell) (H' : Hp), WrongD K Z lo hi v → Hd H' (stoC st c :: scrC c :: (Z ++ R)) → Q v H'
theorem g_wrongD {st c : Addr} {lo hi : Int} {H : Hp} {L R : List Cell} {Q : VK} {E : XK} (hh : Hd H L) (s : Spl L [stoC st c, scrC c] R) (h0 : 0 ≤ lo) (h1 : lo ≤ hi) (h2 : hi ≤ 65535) (q : ∀ (v : V) (Z : List Cell) (H' : Hp), WrongD K Z lo hi v → Hd H' (stoC st c :: scrC c :: (Z ++ R)) → Q v H') : sp_wrongD K [.ref st, .int lo, .int hi] H Q E :=
  ⟨st, c, lo, hi, R, rfl, h0, h1, h2, hh.spl s, q⟩
theorem c_wrongD (T : Txt K mg aREG aOPS) (d : DefAt K mg "_law_wrong_integer" s__law_wrong_integer) (c__law_take : C8.Cal P w K mg base 2 "_law_take" sp_take []) (c__law_pick : C8.Cal P w K mg base 3 "_law_pick" (sp_pick K) []) : C8.Cal P w K mg base 4 "_law_wrong_integer" (sp_wrongD K) [] := by
  refine mk d sc__law_wrong_integer (fun _ _ _ _ _ _ us hl => match us, hl with | [_, _, _], _ => rfl) (fun vs H Q E h => ?_) (fun fa cdv A outer s H vs Q E hr h => ?_)
  · obtain ⟨st, c, lo, hi, R, rfl, _⟩ := h
    rfl
  · obtain ⟨st, c, lo, hi, R, rfl, h0, h1, h2, hh, q⟩ := h
    refine ⟨_, (pss_cons (ps_set (i := 3) sc__law_wrong_integer.nd rfl (Or.inl rfl) (pe_lst (pa_cons (pe_op op_sub (pv 1) pe_int) (pa_cons (pe_op op_add (pv 2) pe_int) (pa_cons (pe_un un_neg pe_int) (pa_cons pe_int pa_nil))))))
  (pss_cons (ps_set (i := 4) sc__law_wrong_integer.nd rfl (Or.inl rfl) (pe_lst (pa_cons pe_bl (pa_cons pe_bl (pa_cons pe_non (pa_cons (pe_callTy call_str_int (by rfl) T.b_str (by decide +kernel) (pa_cons (pv 1) pa_nil)) (pa_cons pe_str (pa_cons pe_str (pa_cons (pe_lst pa_nil) (pa_cons (pe_lst (pa_cons (pv 1) pa_nil)) (pa_cons (pe_tup (pa_cons (pv 2) pa_nil)) (pa_cons (pe_tup pa_nil) pa_nil))))))))))))
  (pss_cons (ps_if (pt_cmpR op_eq (C8.pe_c c__law_take hr (by first | decide | omega) rfl (pa_cons (pv 0) (pa_cons pe_int pa_nil))) pe_int (nomark _))
    (pss_one (ps_ret (C8.pe_c c__law_pick hr (by first | decide | omega) rfl (pa_cons (pv 0) (pa_cons (pv 3) pa_nil)))))
    pss_nil)
  (pss_one (ps_ret (C8.pe_c c__law_pick hr (by first | decide | omega) rfl (pa_cons (pv 0) (pa_cons (pv 4) pa_nil)))))))), ?_⟩
    walk_at "go"
    have lg : lo.natAbs.log2 < 1920 := by
      rcases Nat.eq_zero_or_pos lo.natAbs with z | z
      · rw [z]; decide
      · exact Nat.lt_trans ((Nat.log2_lt (by omega)).mpr (show lo.natAbs < 2 ^ 17 by omega)) (by decide)
    refine ⟨lo, rfl, lg, ?_⟩
    walk_at "go"
    · refine g_pick (by assumption) (by walk_at "spl") (by walk_at "mem") (by simp) (by simp) fun v H4 hv h4 => ?_
      refine q v [_, _, _, _, _, _] H4 ?_ h4
      simp only [List.mem_cons, List.not_mem_nil, or_false] at hv
      rcases hv with rfl | rfl | rfl | rfl
      all_goals exact ⟨decide_eq_false (by omega), _, fun H hz => Dn.int⟩
    · refine g_pick (by assumption) (by walk_at "spl") (by walk_at "mem") (by simp) (by simp) fun v H4 hv h4 => ?_
      refine q v [_, _, _, _, _, _] H4 ?_ h4
      simp only [List.mem_cons, List.not_mem_nil, or_false] at hv
      rcases hv with rfl | rfl | rfl | rfl | rfl | rfl | rfl | rfl | rfl | rfl
      · exact ⟨rfl, _, fun H hz => Dn.bl⟩
      · exact ⟨rfl, _, fun H hz => Dn.bl⟩
      · exact ⟨rfl, _, fun H hz => Dn.non⟩
      · exact ⟨rfl, _, fun H hz => Dn.str⟩
      · exact ⟨rfl, _, fun H hz => Dn.str⟩
      · exact ⟨rfl, _, fun H hz => Dn.str⟩
      · exact ⟨rfl, .list [], fun H hz => Dn.lt (n := 0) hz (by walk_at "mem") (by simp) .nil⟩
      · exact ⟨rfl, .list [.int lo], fun H hz => Dn.lt (n := 0) hz (by walk_at "mem") (by simp) (.cons (Dn.sc (.int _)) .nil)⟩
      · exact ⟨rfl, .tuple [.int hi], fun H hz => Dn.tp (n := 0) hz (by walk_at "mem") (by simp) (.cons (Dn.sc (.int _)) .nil)⟩
      · exact ⟨rfl, .tuple [], fun H hz => Dn.tp (n := 0) hz (by walk_at "mem") (by simp) .nil⟩
end
end K46
set_option Elab.async false
set_option linter.all false
set_option maxRecDepth 100000
set_option maxHeartbeats 4000000
namespace K46
open PySem PySem.Spec PyProof.Rows L2 Wk
local macro_rules | `(tactic| walk_at "u1") => `(tactic| fail "no more")
local macro_rules | `(tactic| walk_at "pos") => `(tactic| first | assumption | omega | decide | (simp only [Int.ofNat_eq_natCast] at *; omega))
local macro_rules | `(tactic| walk_at "sz") => `(tactic| first
  | (simp only [List.length_cons, List.length_nil]; decide)
  | exact Evl.sz_of (by omega)
  | exact Evl.sz_lt (by omega)
  | exact Evl.sz_of (by simp only [List.length_map, List.length_append, List.length_cons, List.length_nil, List.length_replicate]; omega)
  | exact Evl.sz_lt (by simp only [List.length_map, List.length_append, List.length_cons, List.length_nil, List.length_replicate]; omega))
local macro_rules | `(tactic| walk_at "cond") => `(tactic| first
  | exact Or.inr ⟨by decide, by decide⟩
  | (show (0 : Int) < _; first | decide | assumption | omega)
  | exact Or.inl ⟨by omega, by omega⟩
  | exact Or.inr ⟨by omega, by omega⟩
  | exact ⟨by decide, by decide, by decide⟩
  | exact log2_lt (by omega) (by omega)
  | exact ⟨by omega, by omega⟩)
local macro_rules | `(tactic| walk_at "ty") => `(tactic| first
  | exact ty_int | exact ty_bl | exact ty_str | exact ty_non
  | exact ty_L (by assumption) | exact ty_T (by assumption)
  | exact ty_L (SqL.of (by assumption)) | exact ty_T (SqT.of (by assumption)))
local macro_rules | `(tactic| walk_at "kit") => `(tactic| first
  | exact k_ii | exact k_ib | exact k_is | exact k_il | exact k_it
  | exact k_bb | exact k_bi | exact k_bs | exact k_bl | exact k_bt
  | exact k_ss | exact k_sb | exact k_si | exact k_sl | exact k_st
  | exact k_ll | exact k_lb | exact k_li | exact k_ls | exact k_lt
  | exact k_tt | exact k_tb | exact k_ti | exact k_ts | exact k_tl
  | exact k_nn | exact k_ni | exact k_ns | exact k_nl | exact k_nt)
local macro_rules | `(tactic| walk_at "s1") => `(tactic| first
  | with_reducible refine w_seq ?_
  | with_reducible refine w_set ?_
  | with_reducible refine w_op ?_
  | ((with_reducible refine' w_var ?h1 ?_); (case h1 => rfl))
  | with_reducible refine w_c ?_
  | with_reducible refine w_cb ?_
  | with_reducible refine w_cons ?_
  | with_reducible refine w_nil ?_
  | with_reducible refine w_I0 ?_
  | ((with_reducible refine' w_I ?c1 ?_); case c1 => walk_at "cond")
  | with_reducible refine w_ret ?_
  | with_reducible refine w_next ?_
  | with_reducible refine w_ifS ?_
  | with_reducible refine w_test ?_
  | with_reducible refine w_tB ?_
  | with_reducible refine w_k ?_
  | with_reducible refine w_eqI ?_
  | with_reducible refine w_neI ?_
  | with_reducible refine w_eqS ?_
  | with_reducible refine w_neS ?_
  | with_reducible refine w_and ?_
  | with_reducible refine w_or ?_
  | with_reducible refine w_not ?_
  | with_reducible refine w_andV ?_
  | with_reducible refine w_orV ?_
  | with_reducible refine w_notV ?_
  | with_reducible refine w_ifE ?_
  | with_reducible refine w_true ?_
  | with_reducible refine w_false ?_
  | with_reducible refine w_ntrue ?_
  | with_reducible refine w_nfalse ?_
  | with_reducible refine w_call ?_
  | with_reducible refine c_int ?_
  | with_reducible refine c_abs ?_
  | with_reducible refine c_max ?_
  | with_reducible refine c_min ?_
  | with_reducible refine w_drop ?_
  | with_reducible refine w_sfld ?_
  | with_reducible refine w_meth ?_
  | with_reducible refine w_make ?_
  | with_reducible refine w_prop ?_
  | with_reducible refine w_callK ?_
  | with_reducible refine w_callN ?_
  | with_reducible refine w_star ?_
  | with_reducible refine w_gcons ?_
  | with_reducible refine w_gname ?_
  | with_reducible refine w_gnil ?_
  | with_reducible refine w_retN ?_
  | with_reducible refine w_tup ?_
  | with_reducible refine w_lst ?_
  | with_reducible refine w_fld ?_
  | with_reducible refine w_bm ?_
  | with_reducible refine w_bm0 ?_
  | with_reducible refine w_forL ?_
  | with_reducible refine w_forT ?_
  | with_reducible refine w_forS ?_
  | with_reducible refine w_forR ?_
  | with_reducible refine w_lcR ?_
  | with_reducible refine w_lcL ?_
  | with_reducible refine w_lcT ?_
  | with_reducible refine w_isN ?_
  | with_reducible refine w_notN ?_
  | with_reducible refine w_asg ?_
  | with_reducible refine w_gsub ?_
  | ((with_reducible refine' w_aug ?h1 ?_); (case h1 => rfl))
  | with_reducible refine w_augS ?_
  | with_reducible refine w_ipI ?_
  | with_reducible refine w_un ?_
  | with_reducible refine w_U ?_
  | ((with_reducible refine' w_iteF ?f1 ?_); case f1 => (first | (intro h; cases h; done) | decide))
  | ((with_reducible refine' w_iteT ?f1 ?_); case f1 => rfl)
  | ((with_reducible refine' w_iteNF ?f1 ?_); case f1 => rfl)
  | ((with_reducible refine' w_iteNT ?f1 ?_); case f1 => (first | (intro h; cases h; done) | decide))
  | ((with_reducible refine' c_isi ?t1 ?k1 ?_); (case t1 => walk_at "ty"); (case k1 => walk_at "kit"))
  | ((with_reducible refine' w_eq ?e1 ?_); case e1 => rfl)
  | ((with_reducible refine' w_ne ?e1 ?_); case e1 => rfl)
  | walk_at "u1")
local macro_rules | `(tactic| walk_at "s") => `(tactic| repeat walk_at "s1")
local macro_rules | `(tactic| walk_at "mem") => `(tactic| first | with_reducible exact List.mem_cons_self .. | ((with_reducible refine' List.mem_cons_of_mem _ ?q); (case q => walk_at "mem")) | assumption | ((with_reducible refine' List.mem_append_right _ ?q); (case q => walk_at "mem")) | (exact List.mem_append_left _ (by assumption)))
local macro_rules | `(tactic| walk_at "pk") => `(tactic| first | with_reducible exact Pk.here | ((with_reducible refine' Pk.there ?q); (case q => walk_at "pk")) | ((with_reducible refine' Pk.app ?q); (case q => walk_at "pk")))
local macro_rules | `(tactic| walk_at "pkb") => `(tactic| first | with_reducible exact PkB.here | ((with_reducible refine' PkB.there ?q); (case q => walk_at "pkb")) | ((with_reducible refine' PkB.app ?q); (case q => walk_at "pkb")))
local macro_rules | `(tactic| walk_at "spl") => `(tactic| first | with_reducible exact Spl.nil | ((with_reducible refine' Spl.cons ?h ?t); (case h => walk_at "pk"); (case t => walk_at "spl")) | ((with_reducible refine' Spl.blk ?h ?t); (case h => walk_at "pkb"); (case t => walk_at "spl")))
local macro_rules | `(tactic| walk_at "sbx") => `(tactic| first | with_reducible exact Sb.refl | with_reducible exact Sb.nil | with_reducible exact Sb.left | ((with_reducible refine' Sb.cons ?h ?t); (case h => walk_at "pk"); (case t => walk_at "sbx")) | ((with_reducible refine' Sb.blk ?h ?t); (case h => walk_at "pkb"); (case t => walk_at "sbx")) | ((with_reducible refine' Sb.drop ?q); (case q => walk_at "sbx")) | ((with_reducible refine' Sb.right ?q); (case q => walk_at "sbx")))
local macro_rules | `(tactic| walk_at "hd") => `(tactic| first | assumption | exact Hd.sb (by assumption) (by walk_at "sbx"))
local macro_rules | `(tactic| walk_at "sq") => `(tactic| first
  | assumption
  | exact Hd.sqL (by assumption) (by walk_at "mem")
  | exact Hd.sqT (by assumption) (by walk_at "mem")
  | exact Hd.sqF (by assumption) (by walk_at "mem")
  | (refine .inl ?_; walk_at "sq")
  | (refine .inr ?_; walk_at "sq"))
local macro_rules | `(tactic| walk_at "at") => `(tactic| first | rfl | assumption | exact atI_nat (by assumption))
local macro_rules | `(tactic| walk_at "dn1") => `(tactic| first
  | exact Dn.int | exact Dn.str | exact Dn.non | exact Dn.bl | assumption
  | ((refine' Dn.tp ?a1 ?m1 ?l1 ?p1); (case a1 => assumption); (case m1 => walk_at "mem"); (case l1 => (simp only [List.length_cons, List.length_nil]; omega)); (case p1 => walk_at "dns"))
  | ((refine' Dn.lt ?a1 ?m1 ?l1 ?p1); (case a1 => assumption); (case m1 => walk_at "mem"); (case l1 => (simp only [List.length_cons, List.length_nil]; omega)); (case p1 => walk_at "dns")))
local macro_rules | `(tactic| walk_at "dns") => `(tactic| first | exact Paired.nil | exact Dn.ints | ((refine' Paired.cons ?a1 ?b1); (case a1 => walk_at "dn1"); (case b1 => walk_at "dns")))
local macro_rules | `(tactic| walk_at "g1") => `(tactic| first
  | ((with_reducible refine' g_ixI ?h1 ?h2 ?h3 ?_); (case h1 => assumption); (case h2 => walk_at "mem"); (case h3 => omega); intro z hz)
  | ((with_reducible refine' g_ixIT ?h1 ?h2 ?h3 ?_); (case h1 => assumption); (case h2 => walk_at "mem"); (case h3 => omega); intro z hz)
  | ((with_reducible refine' g_setI ?h1 ?h2 ?h3 ?_); (case h1 => assumption); (case h2 => walk_at "pk"); (case h3 => omega); intro H2 hh2)
  | ((with_reducible refine' w_ixL ?h1 ?h2 ?_); (case h1 => walk_at "sq"); (case h2 => walk_at "at"))
  | ((with_reducible refine' w_ixT ?h1 ?h2 ?_); (case h1 => walk_at "sq"); (case h2 => walk_at "at"))
  | ((with_reducible refine' w_ixAny ?h1 ?h2 ?_); (case h1 => walk_at "sq"); (case h2 => walk_at "at"))
  | ((with_reducible refine' c_lenA ?h1 ?_); (case h1 => walk_at "sq"))
  | ((with_reducible refine' c_isi ?t1 ?k1 ?_); (case t1 => first | exact ty_T (by walk_at "sq") | exact ty_L (by walk_at "sq")); (case k1 => walk_at "kit"))
  | ((with_reducible refine' g_lst ?h1 ?h2 ?_); (case h1 => assumption); (case h2 => walk_at "sz"); intro p H2 hh2)
  | ((with_reducible refine' g_tup ?h1 ?h2 ?_); (case h1 => assumption); (case h2 => walk_at "sz"); intro p H2 hh2)
  | ((with_reducible refine' g_dict ?h1 ?_); (case h1 => assumption); intro p H2 hh2)
  | ((with_reducible refine' g_listL ?h1 ?h2 ?_); (case h1 => assumption); (case h2 => walk_at "sq"); intro p H2 hh2)
  | ((with_reducible refine' g_listT ?h1 ?h2 ?_); (case h1 => assumption); (case h2 => walk_at "sq"); intro p H2 hh2)
  | ((with_reducible refine' g_tupL ?h1 ?h2 ?_); (case h1 => assumption); (case h2 => walk_at "sq"); intro p H2 hh2)
  | ((with_reducible refine' g_set ?h1 ?h2 ?h3 ?_); (case h1 => assumption); (case h2 => walk_at "pk"); (case h3 => first | rfl | assumption | exact Evl.ixN_nat (by first | omega | (simp only [List.length_cons, List.length_nil]; omega))); intro H2 hh2)
  | ((with_reducible refine' g_kbm ?h1 ?h2 ?_); (case h1 => assumption); (case h2 => walk_at "mem"))
  | ((with_reducible refine' g_kbm0 ?h1 ?h2 ?_); (case h1 => assumption); (case h2 => walk_at "mem"))
  | ((with_reducible refine' g_app ?h1 ?h2 ?h3 ?_); (case h1 => assumption); (case h2 => walk_at "pk"); (case h3 => walk_at "sz"); intro H2 hh2)
  | ((with_reducible refine' g_kapp ?h1 ?h2 ?h3 ?_); (case h1 => assumption); (case h2 => walk_at "pk"); (case h3 => walk_at "sz"); intro H2 hh2)
  | ((with_reducible refine' g_fld ?h1 ?h2 ?h3 ?h4 ?h5 ?_); (case h1 => assumption); (case h2 => walk_at "mem"); (case h3 => assumption); (case h4 => assumption); (case h5 => rfl))
  | ((with_reducible refine' g_sfld ?h1 ?h2 ?h3 ?h4 ?h5 ?_); (case h1 => assumption); (case h2 => walk_at "pk"); (case h3 => assumption); (case h4 => assumption); (case h5 => decide); intro H2 hh2)
  | ((with_reducible refine' g_meth ?h1 ?h2 ?h3 ?_); (case h1 => assumption); (case h2 => walk_at "mem"); (case h3 => rfl))
  | ((with_reducible refine' g_prop ?h1 ?h2 ?_); (case h1 => assumption); (case h2 => walk_at "mem"))
  | ((with_reducible refine' g_make ?h1 ?_); (case h1 => assumption); intro x H2 hh2)
  | ((with_reducible refine' g_cat ?h1 ?h2 ?h3 ?h4 ?_); (case h1 => assumption); (case h2 => walk_at "mem"); (case h3 => walk_at "mem"); (case h4 => walk_at "sz"); intro p H2 hh2)
  | ((with_reducible refine' g_inT ?h1 ?h2 ?h3 ?h4 ?h5 ?_); (case h1 => assumption); (case h2 => walk_at "mem"); (case h3 => rfl); (case h4 => rfl); (case h5 => rfl)))
local macro_rules | `(tactic| walk_at "gs") => `(tactic| repeat first | walk_at "s1" | walk_at "g1")
local macro_rules | `(tactic| walk_at "ite") => `(tactic| first
  | ((with_reducible refine' w_iteT ?h1 ?_); (case h1 => omega))
  | ((with_reducible refine' w_iteF ?h1 ?_); (case h1 => omega))
  | (with_reducible refine w_ite ?_ ?_ <;> intro hq)
  | ((with_reducible refine' w_iteNT ?h1 ?_); (case h1 => omega))
  | ((with_reducible refine' w_iteNF ?h1 ?_); (case h1 => omega))
  | (with_reducible refine w_iteN ?_ ?_ <;> intro hq))
local macro_rules | `(tactic| walk_at "go") => `(tactic| repeat' first | walk_at "s1" | walk_at "g1" | walk_at "ite")
local macro_rules | `(tactic| walk_at "g1") => `(tactic| first
  | ((with_reducible refine' g_take1 ?h1 ?h2 ?h3 ?h4 ?_); (case h1 => assumption); (case h2 => walk_at "spl"); (case h3 => omega); (case h4 => omega); intro k H2 hk1 hh2)
  | ((with_reducible refine' g_take ?h1 ?h2 ?h4 ?_); (case h1 => assumption); (case h2 => walk_at "spl"); (case h4 => omega); intro k H2 hk1 hh2)
  | ((with_reducible refine' g_betweenN ?h1 ?h2 ?h5 ?h3 ?h4 ?_); (case h1 => assumption); (case h2 => walk_at "spl"); (case h5 => omega); (case h3 => omega); (case h4 => omega); intro k H2 hk1 hk2 hh2)
  | ((with_reducible refine' g_between ?h1 ?h2 ?h3 ?h4 ?_); (case h1 => assumption); (case h2 => walk_at "spl"); (case h3 => omega); (case h4 => omega); intro k H2 hk1 hk2 hh2)
  | ((with_reducible refine' g_size ?h1 ?h2 ?h3 ?h4 ?_); (case h1 => assumption); (case h2 => walk_at "spl"); (case h3 => omega); (case h4 => omega); intro k H2 hk1 hh2)
  | ((with_reducible refine' g_word ?h1 ?h2 ?_); (case h1 => assumption); (case h2 => walk_at "spl"); intro k H2 hk1 hh2))
local macro_rules | `(tactic| walk_at "g1") => `(tactic| first | with_reducible refine w_sl ?_ | with_reducible refine w_part ?_ | with_reducible refine w_noPart ?_ | with_reducible refine w_exI ?_)
section
variable {P : Program} {w : World} {K : PySem.W.Frag} {mg : Str → Option Value} {base : Heap} {aREG aOPS : Addr}
def sp_wrongW (K : PySem.W.Frag) : Sp := fun vs H Q _ => ∃ (st c l : Addr) (mx : Nat) (ws : List Int) (R : List Cell), vs = [.ref st, .ref l, .int mx, .bl false] ∧ mx ≤ 400 ∧ ws.length ≤ mx ∧ (∀ x ∈ ws, (0 : Int) ≤ x ∧ x ≤ 65535) ∧ Hd H (stoC st c :: scrC c :: lstC l (ws.map V.int) :: R) ∧
  ∀ (v : V) (d : PyData) (Z : List Cell) H', BadD mx d → Zc K Z 2 v d → Hd H' (stoC st c :: scrC c :: (Z ++ (lstC l (ws.map V.int) :: R))) → Q v H'
theorem c_wrongW (T : Txt K mg aREG aOPS) (d : DefAt K mg "_law_wrong_words" s__law_wrong_words) (c__law_take : C8.Cal P w K mg base 2 "_law_take" sp_take []) (c__law_pick : C8.Cal P w K mg base 3 "_law_pick" (sp_pick K) []) (c__law_wrong_integer : C8.Cal P w K mg base 4 "_law_wrong_integer" (sp_wrongD K) []) : C8.Cal P w K mg base 5 "_law_wrong_words" (sp_wrongW K) [] := by
  refine mk d sc__law_wrong_words (fun _ _ _ _ _ _ us hl => match us, hl with | [_, _, _, _], _ => rfl) (fun vs H Q E h => ?_) (fun f cdv A outer s H vs Q E hr h => ?_)
  · obtain ⟨st, c, l, mx, ws, R, rfl, _⟩ := h
    rfl
  · obtain ⟨st, c, l, mx, ws, R, rfl, hmx, hl, hw, hh, q⟩ := h
    refine ⟨_, (pss_cons (ps_set (i := 4) sc__law_wrong_words.nd rfl (Or.inl rfl) (C8.pe_c c__law_take hr (by first | decide | omega) rfl (pa_cons (pv 0) (pa_cons pe_int pa_nil))))
  (pss_cons (ps_if (pt_cmpR op_lt (pv 4) pe_int (nomark _))
    (pss_cons (ps_set (i := 5) sc__law_wrong_words.nd rfl (Or.inl rfl) (pe_callTy Wk.b_list (by rfl) T.b_list (by decide +kernel) (pa_cons (pv 1) pa_nil)))
      (pss_cons (ps_set (i := 6) sc__law_wrong_words.nd rfl (Or.inl rfl) (C8.pe_c c__law_wrong_integer hr (by first | decide | omega) rfl (pa_cons (pv 0) (pa_cons pe_int (pa_cons pe_int pa_nil)))))
      (pss_cons (ps_if (pt_cmpR op_eq (pe_callB Wk.b_len (by rfl) T.b_len (by decide +kernel) (pa_cons (pv 5) pa_nil)) pe_int (nomark _))
        (pss_one (ps_ret (pe_lst (pa_cons (pv 6) pa_nil))))
        pss_nil)
      (pss_cons (ps_asg (pv 6) (pg_sub (pv 5) (C8.pe_c c__law_take hr (by first | decide | omega) rfl (pa_cons (pv 0) (pa_cons (pe_callB Wk.b_len (by rfl) T.b_len (by decide +kernel) (pa_cons (pv 5) pa_nil)) pa_nil))) set_list))
      (pss_one (ps_ret (pv 5)))))))
    pss_nil)
  (pss_cons (ps_if (pt_cmpR op_eq (pv 4) pe_int (nomark _))
    (pss_one (ps_ret (pe_op op_cat (pe_callTy Wk.b_list (by rfl) T.b_list (by decide +kernel) (pa_cons (pv 1) pa_nil)) (pe_op op_rep (pe_lst (pa_cons pe_int pa_nil)) (pe_op op_sub (pe_op op_add (pv 2) pe_int) (pe_callB Wk.b_len (by rfl) T.b_len (by decide +kernel) (pa_cons (pv 1) pa_nil)))))))
    pss_nil)
  (pss_cons (ps_if (pt_cmpR op_eq (pv 4) pe_int (nomark _))
    (pss_one (ps_ret (C8.pe_c c__law_pick hr (by first | decide | omega) rfl (pa_cons (pv 0) (pa_cons (pe_lst (pa_cons pe_bl (pa_cons pe_bl (pa_cons pe_int (pa_cons pe_int (pa_cons pe_str (pa_cons pe_str pa_nil))))))) pa_nil)))))
    pss_nil)
  (pss_cons (ps_if (PW.pt (pw_and (pt_cmpR op_eq (pv 4) pe_int (nomark _)) (pw_and1 (pt_not (pt_val (pv 3))))))
    (pss_one (ps_ret (pe_callTy Wk.b_tuple (by rfl) T.b_tuple (by decide +kernel) (pa_cons (pv 1) pa_nil))))
    pss_nil)
  (pss_one (ps_ret (pe_lst (pa_cons (pe_callTy Wk.b_list (by rfl) T.b_list (by decide +kernel) (pa_cons (pv 1) pa_nil)) pa_nil))))))))), ?_⟩
    walk_at "gs"
    refine w_ite (fun e => ?_) (fun e => ?_)
    · walk_at "gs"
      rename_i rw H1 h1
      refine g_wrongD h1 (by walk_at "spl") (by omega) (by omega) (by omega) fun v Z H2 hv h2 => ?_
      obtain ⟨hv1, dv, zv⟩ := hv
      walk_at "gs"
      rw [List.length_map]
      have hd1 : ∀ H, Hd H Z → isWD dv = false := fun H hz => (isWD_eq (zv H hz)).symm.trans hv1
      have hd2 := hd1 _ (Hd.sb h2 (by walk_at "sbx"))
      refine w_ite (fun e2 => ?_) (fun e2 => ?_)
      · walk_at "gs"
        rename_i p H3 h3
        exact q (.ref p) (.list [dv]) (lstC p [v] :: Z) H3 (.inr ⟨dv, List.mem_cons_self .., hd2⟩) (fun H hz => Dn.lt (n := 1) hz (List.mem_cons_self ..) (by simp) (.cons (zv _ hz.tail) .nil)) (Hd.sb (A := stoC st c :: scrC c :: lstC p [v] :: (Z ++ (lstC l (ws.map V.int) :: R))) h3 (by walk_at "sbx"))
      · walk_at "gs"
        rw [List.length_map]
        refine g_take1 h2 (by walk_at "spl") (by omega) (by omega) fun k H3 hk h3 => ?_
        refine g_set (n := k) h3 (by walk_at "pk") (Evl.ixN_nat (by rw [List.length_map]; omega)) fun H4 h4 => ?_
        walk_at "gs"
        refine q (.ref rw) (.list ((ws.map PyData.int).set k dv)) (lstC rw ((ws.map V.int).set k v) :: Z) H4 (.inr ⟨dv, List.mem_of_getElem? (i := k) (List.getElem?_set_self (by rw [List.length_map]; omega)), hd2⟩) (fun H hz => Dn.lt (n := 1) hz (List.mem_cons_self ..) (by rw [List.length_set, List.length_map]; omega) ?_) (Hd.sb (A := stoC st c :: scrC c :: lstC rw ((ws.map V.int).set k v) :: (Z ++ (lstC l (ws.map V.int) :: R))) h4 (by walk_at "sbx"))
        exact paired_set (Dn.ints) (zv _ hz.tail)
    · walk_at "go"
      · rename_i p H2 h2 p1 H3 h3
        have ek : ((mx : Int) + 1 - ((ws.map V.int).length : Int)).toNat = mx + 1 - ws.length := by rw [List.length_map]; omega
        refine g_rep h3 (by walk_at "mem") (by rw [List.length_map]; omega) (by rw [List.length_map]; omega) (by rw [ek]; exact Nat.le_trans (show 1 * (mx + 1 - ws.length) ≤ 401 by omega) (by decide)) fun p2 H4 h4 => ?_
        rw [ek, rep_ints] at h4
        refine g_cat h4 (by walk_at "mem") (by walk_at "mem") (by rw [List.length_map, List.length_map, List.length_replicate]; exact Nat.le_trans (show ws.length + (mx + 1 - ws.length) ≤ 401 by omega) (by decide)) fun p3 H5 h5 => ?_
        rw [← List.map_append] at h5
        refine q (.ref p3) (.list ((ws ++ List.replicate (mx + 1 - ws.length) (0 : Int)).map PyData.int)) [lstC p3 ((ws ++ List.replicate (mx + 1 - ws.length) (0 : Int)).map V.int)] H5 (.inl ?_) (fun H hz => Dn.lt (n := 1) hz (List.mem_cons_self ..) (by rw [List.length_map, List.length_append, List.length_replicate]; omega) Dn.ints) (Hd.sb (A := stoC st c :: scrC c :: lstC p3 ((ws ++ List.replicate (mx + 1 - ws.length) (0 : Int)).map V.int) :: (lstC l (ws.map V.int) :: R)) h5 (by walk_at "sbx"))
        rw [List.length_map, List.length_append, List.length_replicate]
        omega
      · rename_i p H2 h2
        refine g_pick h2 (by walk_at "spl") (by walk_at "mem") (by simp) (by simp) fun v H3 hv h3 => ?_
        have h4 : Hd H3 (stoC st c :: scrC c :: ([] ++ (lstC l (ws.map V.int) :: R))) := Hd.sb (A := stoC st c :: scrC c :: (lstC l (ws.map V.int) :: R)) h3 (by walk_at "sbx")
        simp only [List.mem_cons, List.not_mem_nil, or_false] at hv
        rcases hv with rfl | rfl | rfl | rfl | rfl | rfl
        · exact q _ (.bool true) [] H3 trivial (fun H hz => Dn.bl) h4
        · exact q _ (.bool false) [] H3 trivial (fun H hz => Dn.bl) h4
        · exact q _ (.int 8) [] H3 trivial (fun H hz => Dn.int) h4
        · exact q _ (.int 0) [] H3 trivial (fun H hz => Dn.int) h4
        · exact q _ (.str "") [] H3 trivial (fun H hz => Dn.str) h4
        · exact q _ (.str "words") [] H3 trivial (fun H hz => Dn.str) h4
      · rename_i p H2 h2
        exact q (.ref p) (.tuple (ws.map PyData.int)) [tupC p (ws.map V.int)] H2 trivial (fun H hz => Dn.tp (n := 1) hz (List.mem_cons_self ..) (by rw [List.length_map]; omega) Dn.ints) (Hd.sb (A := stoC st c :: scrC c :: tupC p (ws.map V.int) :: (lstC l (ws.map V.int) :: R)) h2 (by walk_at "sbx"))
      · rename_i p H2 h2 p2 H3 h3
        exact q (.ref p2) (.list [.list (ws.map PyData.int)]) [lstC p2 [.ref p], lstC p (ws.map V.int)] H3 (.inr ⟨_, List.mem_cons_self .., rfl⟩) (fun H hz => Dn.lt (n := 1) hz (List.mem_cons_self ..) (by simp) (.cons (Dn.lt (n := 0) hz (List.mem_cons_of_mem _ (List.mem_cons_self ..)) (by rw [List.length_map]; omega) Dn.ints) .nil)) (Hd.sb (A := stoC st c :: scrC c :: lstC p2 [.ref p] :: lstC p (ws.map V.int) :: (lstC l (ws.map V.int) :: R)) h3 (by walk_at "sbx"))
theorem g_wrongW {st c l : Addr} {mx : Nat} {ws : List Int} {H : Hp} {L R : List Cell} {Q : VK} {E : XK} (hh : Hd H L) (s : Spl L [stoC st c, scrC c, lstC l (ws.map V.int)] R) (hm : mx ≤ 400) (hl : ws.length ≤ mx) (hw : ∀ x ∈ ws, (0 : Int) ≤ x ∧ x ≤ 65535)
    (q : ∀ (v : V) (d : PyData) (Z : List Cell) H', BadD mx d → Zc K Z 2 v d → Hd H' (stoC st c :: scrC c :: (Z ++ (lstC l (ws.map V.int) :: R))) → Q v H') : sp_wrongW K [.ref st, .ref l, .int mx, .bl false] H Q E := ⟨st, c, l, mx, ws, R, rfl, hm, hl, hw, hh.spl s, q⟩
/-- letters -/
def sp_letter : Sp := fun vs H Q _ => ∃ (st c : Addr) (R : List Cell), vs = [.ref st] ∧ Hd H (stoC st c :: scrC c :: R) ∧
  ∀ (p : Addr) (ws : List Int) H', ws.length ≤ 7 → (∀ x ∈ ws, (0 : Int) ≤ x ∧ x ≤ 65535) → Hd H' (lstC p (ws.map V.int) :: stoC st c :: scrC c :: R) → Q (.ref p) H'
theorem c_letter (T : Txt K mg aREG aOPS) (d : DefAt K mg "_law_letter" s__law_letter) (c__law_between : C8.Cal P w K mg base 3 "_law_between" sp_between []) (c__law_words : C8.Cal P w K mg base 5 "_law_words" sp_lwords []) : C8.Cal P w K mg base 6 "_law_letter" sp_letter [] := by
  refine mk d sc__law_letter (fun _ _ _ _ _ _ us hl => match us, hl with | [_], _ => rfl) (fun vs H Q E h => ?_) (fun f cdv A outer s H vs Q E hr h => ?_)
  · obtain ⟨st, c, R, rfl, _⟩ := h
    rfl
  · obtain ⟨st, c, R, rfl, hh, q⟩ := h
    refine ⟨_, (pss_one (ps_ret (C8.pe_c c__law_words hr (by first | decide | omega) rfl (pa_cons (pv 0) (pa_cons (C8.pe_c c__law_between hr (by first | decide | omega) rfl (pa_cons (pv 0) (pa_cons pe_int (pa_cons pe_int pa_nil)))) pa_nil))))), ?_⟩
    walk_at "gs"
    rename_i k H2 hk1 hk2 h2
    exact g_words h2 (by walk_at "spl") (by omega) fun p ws H3 hn hw h3 => q p ws H3 (by omega) hw h3
theorem g_letter {st c : Addr} {H : Hp} {L R : List Cell} {Q : VK} {E : XK} (hh : Hd H L) (s : Spl L [stoC st c, scrC c] R) (q : ∀ (p : Addr) (ws : List Int) H', ws.length ≤ 7 → (∀ x ∈ ws, (0 : Int) ≤ x ∧ x ≤ 65535) → Hd H' (lstC p (ws.map V.int) :: stoC st c :: scrC c :: R) → Q (.ref p) H') : sp_letter [.ref st] H Q E := ⟨st, c, R, rfl, hh.spl s, q⟩
/-- a wrong letter -/
def sp_wrongL (K : PySem.W.Frag) : Sp := fun vs H Q _ => ∃ (st c : Addr) (R : List Cell), vs = [.ref st] ∧ Hd H (stoC st c :: scrC c :: R) ∧
  ∀ (v : V) (d : PyData) (Z : List Cell) H', BadD 7 d → Zc K Z 2 v d → Hd H' (stoC st c :: scrC c :: (Z ++ R)) → Q v H'
theorem c_wrongL (T : Txt K mg aREG aOPS) (d : DefAt K mg "_law_wrong_letter" s__law_wrong_letter) (c__law_letter : C8.Cal P w K mg base 6 "_law_letter" sp_letter []) (c__law_wrong_words : C8.Cal P w K mg base 5 "_law_wrong_words" (sp_wrongW K) []) : C8.Cal P w K mg base 7 "_law_wrong_letter" (sp_wrongL K) [] := by
  refine mk d sc__law_wrong_letter (fun _ _ _ _ _ _ us hl => match us, hl with | [_], _ => rfl) (fun vs H Q E h => ?_) (fun f cdv A outer s H vs Q E hr h => ?_)
  · obtain ⟨st, c, R, rfl, _⟩ := h
    rfl
  · obtain ⟨st, c, R, rfl, hh, q⟩ := h
    refine ⟨_, (pss_one (ps_ret (C8.pe_c c__law_wrong_words hr (by first | decide | omega) rfl (pa_cons (pv 0) (pa_cons (C8.pe_c c__law_letter hr (by first | decide | omega) rfl (pa_cons (pv 0) pa_nil)) (pa_cons pe_int (pa_cons pe_bl pa_nil))))))), ?_⟩
    walk_at "gs"
    refine g_letter hh (by walk_at "spl") fun p ws H2 hl hw h2 => ?_
    walk_at "gs"
    exact g_wrongW (mx := 7) h2 (by walk_at "spl") (by omega) hl hw fun v d Z H3 hb hz h3 => q v d Z H3 hb hz (Hd.sb h3 (by walk_at "sbx"))
theorem g_wrongL {st c : Addr} {H : Hp} {L R : List Cell} {Q : VK} {E : XK} (hh : Hd H L) (s : Spl L [stoC st c, scrC c] R) (q : ∀ (v : V) (d : PyData) (Z : List Cell) H', BadD 7 d → Zc K Z 2 v d → Hd H' (stoC st c :: scrC c :: (Z ++ R)) → Q v H') : sp_wrongL K [.ref st] H Q E := ⟨st, c, R, rfl, hh.spl s, q⟩
end
end K46
set_option Elab.async false
set_option linter.all false
set_option maxRecDepth 100000
set_option maxHeartbeats 4000000
namespace K46
open PySem PySem.Spec PyProof.Rows L2 Wk
local macro_rules | `(tactic| walk_at "u1") => `(tactic| fail "no more")
local macro_rules | `(tactic| walk_at "pos") => `(tactic| first | assumption | omega | decide | (simp only [Int.ofNat_eq_natCast] at *; omega))
local macro_rules | `(tactic| walk_at "sz") => `(tactic| first
  | (simp only [List.length_cons, List.length_nil]; decide)
  | exact Evl.sz_of (by omega)
  | exact Evl.sz_lt (by omega)
  | exact Evl.sz_of (by simp only [List.length_map, List.length_append, List.length_cons, List.length_nil, List.length_replicate]; omega)
  | exact Evl.sz_lt (by simp only [List.length_map, List.length_append, List.length_cons, List.length_nil, List.length_replicate]; omega))
local macro_rules | `(tactic| walk_at "cond") => `(tactic| first
  | exact Or.inr ⟨by decide, by decide⟩
  | (show (0 : Int) < _; first | decide | assumption | omega)
  | exact Or.inl ⟨by omega, by omega⟩
  | exact Or.inr ⟨by omega, by omega⟩
  | exact ⟨by decide, by decide, by decide⟩
  | exact log2_lt (by omega) (by omega)
  | exact ⟨by omega, by omega⟩)
local macro_rules | `(tactic| walk_at "ty") => `(tactic| first
  | exact ty_int | exact ty_bl | exact ty_str | exact ty_non
  | exact ty_L (by assumption) | exact ty_T (by assumption)
  | exact ty_L (SqL.of (by assumption)) | exact ty_T (SqT.of (by assumption)))
local macro_rules | `(tactic| walk_at "kit") => `(tactic| first
  | exact k_ii | exact k_ib | exact k_is | exact k_il | exact k_it
  | exact k_bb | exact k_bi | exact k_bs | exact k_bl | exact k_bt
  | exact k_ss | exact k_sb | exact k_si | exact k_sl | exact k_st
  | exact k_ll | exact k_lb | exact k_li | exact k_ls | exact k_lt
  | exact k_tt | exact k_tb | exact k_ti | exact k_ts | exact k_tl
  | exact k_nn | exact k_ni | exact k_ns | exact k_nl | exact k_nt)
local macro_rules | `(tactic| walk_at "s1") => `(tactic| first
  | with_reducible refine w_seq ?_
  | with_reducible refine w_set ?_
  | with_reducible refine w_op ?_
  | ((with_reducible refine' w_var ?h1 ?_); (case h1 => rfl))
  | with_reducible refine w_c ?_
  | with_reducible refine w_cb ?_
  | with_reducible refine w_cons ?_
  | with_reducible refine w_nil ?_
  | with_reducible refine w_I0 ?_
  | ((with_reducible refine' w_I ?c1 ?_); case c1 => walk_at "cond")
  | with_reducible refine w_ret ?_
  | with_reducible refine w_next ?_
  | with_reducible refine w_ifS ?_
  | with_reducible refine w_test ?_
  | with_reducible refine w_tB ?_
  | with_reducible refine w_k ?_
  | with_reducible refine w_eqI ?_
  | with_reducible refine w_neI ?_
  | with_reducible refine w_eqS ?_
  | with_reducible refine w_neS ?_
  | with_reducible refine w_and ?_
  | with_reducible refine w_or ?_
  | with_reducible refine w_not ?_
  | with_reducible refine w_andV ?_
  | with_reducible refine w_orV ?_
  | with_reducible refine w_notV ?_
  | with_reducible refine w_ifE ?_
  | with_reducible refine w_true ?_
  | with_reducible refine w_false ?_
  | with_reducible refine w_ntrue ?_
  | with_reducible refine w_nfalse ?_
  | with_reducible refine w_call ?_
  | with_reducible refine c_int ?_
  | with_reducible refine c_abs ?_
  | with_reducible refine c_max ?_
  | with_reducible refine c_min ?_
  | with_reducible refine w_drop ?_
  | with_reducible refine w_sfld ?_
  | with_reducible refine w_meth ?_
  | with_reducible refine w_make ?_
  | with_reducible refine w_prop ?_
  | with_reducible refine w_callK ?_
  | with_reducible refine w_callN ?_
  | with_reducible refine w_star ?_
  | with_reducible refine w_gcons ?_
  | with_reducible refine w_gname ?_
  | with_reducible refine w_gnil ?_
  | with_reducible refine w_retN ?_
  | with_reducible refine w_tup ?_
  | with_reducible refine w_lst ?_
  | with_reducible refine w_fld ?_
  | with_reducible refine w_bm ?_
  | with_reducible refine w_bm0 ?_
  | with_reducible refine w_forL ?_
  | with_reducible refine w_forT ?_
  | with_reducible refine w_forS ?_
  | with_reducible refine w_forR ?_
  | with_reducible refine w_lcR ?_
  | with_reducible refine w_lcL ?_
  | with_reducible refine w_lcT ?_
  | with_reducible refine w_isN ?_
  | with_reducible refine w_notN ?_
  | with_reducible refine w_asg ?_
  | with_reducible refine w_gsub ?_
  | ((with_reducible refine' w_aug ?h1 ?_); (case h1 => rfl))
  | with_reducible refine w_augS ?_
  | with_reducible refine w_ipI ?_
  | with_reducible refine w_un ?_
  | with_reducible refine w_U ?_
  | ((with_reducible refine' w_iteF ?f1 ?_); case f1 => (first | (intro h; cases h; done) | decide))
  | ((with_reducible refine' w_iteT ?f1 ?_); case f1 => rfl)
  | ((with_reducible refine' w_iteNF ?f1 ?_); case f1 => rfl)
  | ((with_reducible refine' w_iteNT ?f1 ?_); case f1 => (first | (intro h; cases h; done) | decide))
  | ((with_reducible refine' c_isi ?t1 ?k1 ?_); (case t1 => walk_at "ty"); (case k1 => walk_at "kit"))
  | ((with_reducible refine' w_eq ?e1 ?_); case e1 => rfl)
  | ((with_reducible refine' w_ne ?e1 ?_); case e1 => rfl)
  | walk_at "u1")
local macro_rules | `(tactic| walk_at "s") => `(tactic| repeat walk_at "s1")
local macro_rules | `(tactic| walk_at "mem") => `(tactic| first | with_reducible exact List.mem_cons_self .. | ((with_reducible refine' List.mem_cons_of_mem _ ?q); (case q => walk_at "mem")) | assumption | ((with_reducible refine' List.mem_append_right _ ?q); (case q => walk_at "mem")) | (exact List.mem_append_left _ (by assumption)))
local macro_rules | `(tactic| walk_at "pk") => `(tactic| first | with_reducible exact Pk.here | ((with_reducible refine' Pk.there ?q); (case q => walk_at "pk")) | ((with_reducible refine' Pk.app ?q); (case q => walk_at "pk")))
local macro_rules | `(tactic| walk_at "pkb") => `(tactic| first | with_reducible exact PkB.here | ((with_reducible refine' PkB.there ?q); (case q => walk_at "pkb")) | ((with_reducible refine' PkB.app ?q); (case q => walk_at "pkb")))
local macro_rules | `(tactic| walk_at "spl") => `(tactic| first | with_reducible exact Spl.nil | ((with_reducible refine' Spl.cons ?h ?t); (case h => walk_at "pk"); (case t => walk_at "spl")) | ((with_reducible refine' Spl.blk ?h ?t); (case h => walk_at "pkb"); (case t => walk_at "spl")))
local macro_rules | `(tactic| walk_at "sbx") => `(tactic| first | with_reducible exact Sb.refl | with_reducible exact Sb.nil | with_reducible exact Sb.left | ((with_reducible refine' Sb.cons ?h ?t); (case h => walk_at "pk"); (case t => walk_at "sbx")) | ((with_reducible refine' Sb.blk ?h ?t); (case h => walk_at "pkb"); (case t => walk_at "sbx")) | ((with_reducible refine' Sb.drop ?q); (case q => walk_at "sbx")) | ((with_reducible refine' Sb.right ?q); (case q => walk_at "sbx")))
local macro_rules | `(tactic| walk_at "hd") => `(tactic| first | assumption | exact Hd.sb (by assumption) (by walk_at "sbx"))
local macro_rules | `(tactic| walk_at "sq") => `(tactic| first
  | assumption
  | exact Hd.sqL (by assumption) (by walk_at "mem")
  | exact Hd.sqT (by assumption) (by walk_at "mem")
  | exact Hd.sqF (by assumption) (by walk_at "mem")
  | (refine .inl ?_; walk_at "sq")
  | (refine .inr ?_; walk_at "sq"))
local macro_rules | `(tactic| walk_at "at") => `(tactic| first | rfl | assumption | exact atI_nat (by assumption))
local macro_rules | `(tactic| walk_at "dn1") => `(tactic| first
  | exact Dn.int | exact Dn.str | exact Dn.non | exact Dn.bl | assumption
  | ((refine' Dn.tp ?a1 ?m1 ?l1 ?p1); (case a1 => assumption); (case m1 => walk_at "mem"); (case l1 => (simp only [List.length_cons, List.length_nil]; omega)); (case p1 => walk_at "dns"))
  | ((refine' Dn.lt ?a1 ?m1 ?l1 ?p1); (case a1 => assumption); (case m1 => walk_at "mem"); (case l1 => (simp only [List.length_cons, List.length_nil]; omega)); (case p1 => walk_at "dns")))
local macro_rules | `(tactic| walk_at "dns") => `(tactic| first | exact Paired.nil | exact Dn.ints | ((refine' Paired.cons ?a1 ?b1); (case a1 => walk_at "dn1"); (case b1 => walk_at "dns")))
local macro_rules | `(tactic| walk_at "g1") => `(tactic| first
  | ((with_reducible refine' g_ixI ?h1 ?h2 ?h3 ?_); (case h1 => assumption); (case h2 => walk_at "mem"); (case h3 => omega); intro z hz)
  | ((with_reducible refine' g_ixIT ?h1 ?h2 ?h3 ?_); (case h1 => assumption); (case h2 => walk_at "mem"); (case h3 => omega); intro z hz)
  | ((with_reducible refine' g_setI ?h1 ?h2 ?h3 ?_); (case h1 => assumption); (case h2 => walk_at "pk"); (case h3 => omega); intro H2 hh2)
  | ((with_reducible refine' w_ixL ?h1 ?h2 ?_); (case h1 => walk_at "sq"); (case h2 => walk_at "at"))
  | ((with_reducible refine' w_ixT ?h1 ?h2 ?_); (case h1 => walk_at "sq"); (case h2 => walk_at "at"))
  | ((with_reducible refine' w_ixAny ?h1 ?h2 ?_); (case h1 => walk_at "sq"); (case h2 => walk_at "at"))
  | ((with_reducible refine' c_lenA ?h1 ?_); (case h1 => walk_at "sq"))
  | ((with_reducible refine' c_isi ?t1 ?k1 ?_); (case t1 => first | exact ty_T (by walk_at "sq") | exact ty_L (by walk_at "sq")); (case k1 => walk_at "kit"))
  | ((with_reducible refine' g_lst ?h1 ?h2 ?_); (case h1 => assumption); (case h2 => walk_at "sz"); intro p H2 hh2)
  | ((with_reducible refine' g_tup ?h1 ?h2 ?_); (case h1 => assumption); (case h2 => walk_at "sz"); intro p H2 hh2)
  | ((with_reducible refine' g_dict ?h1 ?_); (case h1 => assumption); intro p H2 hh2)
  | ((with_reducible refine' g_listL ?h1 ?h2 ?_); (case h1 => assumption); (case h2 => walk_at "sq"); intro p H2 hh2)
  | ((with_reducible refine' g_listT ?h1 ?h2 ?_); (case h1 => assumption); (case h2 => walk_at "sq"); intro p H2 hh2)
  | ((with_reducible refine' g_tupL ?h1 ?h2 ?_); (case h1 => assumption); (case h2 => walk_at "sq"); intro p H2 hh2)
  | ((with_reducible refine' g_set ?h1 ?h2 ?h3 ?_); (case h1 => assumption); (case h2 => walk_at "pk"); (case h3 => first | rfl | assumption | exact Evl.ixN_nat (by first | omega | (simp only [List.length_cons, List.length_nil]; omega))); intro H2 hh2)
  | ((with_reducible refine' g_kbm ?h1 ?h2 ?_); (case h1 => assumption); (case h2 => walk_at "mem"))
  | ((with_reducible refine' g_kbm0 ?h1 ?h2 ?_); (case h1 => assumption); (case h2 => walk_at "mem"))
  | ((with_reducible refine' g_app ?h1 ?h2 ?h3 ?_); (case h1 => assumption); (case h2 => walk_at "pk"); (case h3 => walk_at "sz"); intro H2 hh2)
  | ((with_reducible refine' g_kapp ?h1 ?h2 ?h3 ?_); (case h1 => assumption); (case h2 => walk_at "pk"); (case h3 => walk_at "sz"); intro H2 hh2)
  | ((with_reducible refine' g_fld ?h1 ?h2 ?h3 ?h4 ?h5 ?_); (case h1 => assumption); (case h2 => walk_at "mem"); (case h3 => assumption); (case h4 => assumption); (case h5 => rfl))
  | ((with_reducible refine' g_sfld ?h1 ?h2 ?h3 ?h4 ?h5 ?_); (case h1 => assumption); (case h2 => walk_at "pk"); (case h3 => assumption); (case h4 => assumption); (case h5 => decide); intro H2 hh2)
  | ((with_reducible refine' g_meth ?h1 ?h2 ?h3 ?_); (case h1 => assumption); (case h2 => walk_at "mem"); (case h3 => rfl))
  | ((with_reducible refine' g_prop ?h1 ?h2 ?_); (case h1 => assumption); (case h2 => walk_at "mem"))
  | ((with_reducible refine' g_make ?h1 ?_); (case h1 => assumption); intro x H2 hh2)
  | ((with_reducible refine' g_cat ?h1 ?h2 ?h3 ?h4 ?_); (case h1 => assumption); (case h2 => walk_at "mem"); (case h3 => walk_at "mem"); (case h4 => walk_at "sz"); intro p H2 hh2)
  | ((with_reducible refine' g_inT ?h1 ?h2 ?h3 ?h4 ?h5 ?_); (case h1 => assumption); (case h2 => walk_at "mem"); (case h3 => rfl); (case h4 => rfl); (case h5 => rfl)))
local macro_rules | `(tactic| walk_at "gs") => `(tactic| repeat first | walk_at "s1" | walk_at "g1")
local macro_rules | `(tactic| walk_at "ite") => `(tactic| first
  | ((with_reducible refine' w_iteT ?h1 ?_); (case h1 => omega))
  | ((with_reducible refine' w_iteF ?h1 ?_); (case h1 => omega))
  | (with_reducible refine w_ite ?_ ?_ <;> intro hq)
  | ((with_reducible refine' w_iteNT ?h1 ?_); (case h1 => omega))
  | ((with_reducible refine' w_iteNF ?h1 ?_); (case h1 => omega))
  | (with_reducible refine w_iteN ?_ ?_ <;> intro hq))
local macro_rules | `(tactic| walk_at "go") => `(tactic| repeat' first | walk_at "s1" | walk_at "g1" | walk_at "ite")
local macro_rules | `(tactic| walk_at "g1") => `(tactic| first
  | ((with_reducible refine' g_take1 ?h1 ?h2 ?h3 ?h4 ?_); (case h1 => assumption); (case h2 => walk_at "spl"); (case h3 => omega); (case h4 => omega); intro k H2 hk1 hh2)
  | ((with_reducible refine' g_take ?h1 ?h2 ?h4 ?_); (case h1 => assumption); (case h2 => walk_at "spl"); (case h4 => omega); intro k H2 hk1 hh2)
  | ((with_reducible refine' g_betweenN ?h1 ?h2 ?h5 ?h3 ?h4 ?_); (case h1 => assumption); (case h2 => walk_at "spl"); (case h5 => omega); (case h3 => omega); (case h4 => omega); intro k H2 hk1 hk2 hh2)
  | ((with_reducible refine' g_between ?h1 ?h2 ?h3 ?h4 ?_); (case h1 => assumption); (case h2 => walk_at "spl"); (case h3 => omega); (case h4 => omega); intro k H2 hk1 hk2 hh2)
  | ((with_reducible refine' g_size ?h1 ?h2 ?h3 ?h4 ?_); (case h1 => assumption); (case h2 => walk_at "spl"); (case h3 => omega); (case h4 => omega); intro k H2 hk1 hh2)
  | ((with_reducible refine' g_word ?h1 ?h2 ?_); (case h1 => assumption); (case h2 => walk_at "spl"); intro k H2 hk1 hh2))
local macro_rules | `(tactic| walk_at "g1") => `(tactic| first | with_reducible refine w_sl ?_ | with_reducible refine w_part ?_ | with_reducible refine w_noPart ?_ | with_reducible refine w_exI ?_)
section
variable {P : Program} {w : World} {K : PySem.W.Frag} {mg : Str → Option Value} {base : Heap} {aREG aOPS : Addr}
section
variable {CE W fI fE tP : Addr} {fdE : FuncData}
def sp_called (K : PySem.W.Frag) (tP : Addr) : Sp := fun vs H Q E => sp_calledG K tP vs H Q E ∨ sp_calledX K tP vs H Q E ∨ sp_calledS K tP vs H Q E
theorem c_called (T : Txt K mg aREG aOPS) (R : ErrC K mg CE W fI) (d : DefAt K mg "_law_called" s__law_called) (c__law_copyL : C8.Cal P w K mg base 2 "_law_copy" (sp_copyL K 0) []) (c__law_copy : C8.Cal P w K mg base 3 "_law_copy" (sp_copy K 3) []) (c__law_alike : C8.Cal P w K mg base 2 "_law_alike" (sp_alike K 2) [])
    (c_pack_letter : C8.Cal P w K mg base 7 "pack_letter" (sp_pack tP) []) (ck_pack_letter_letter : CalK P w K mg base 7 "pack_letter" (sp_pack tP) 0 ["letter"] (fun _ zs => zs)) (c_unpack_letters : C8.Cal P w K mg base 7 "unpack_letters" (sp_unpack tP) []) (ck_unpack_letters_words : CalK P w K mg base 7 "unpack_letters" (sp_unpack tP) 0 ["words"] (fun _ zs => zs))
    (cx_pack : CalKN P w K mg base 7 "pack_letter" (sp_packX K CE tP) 0 ["letter"] (fun _ zs => zs)) (cx_unpack : CalN P w K mg base 7 "unpack_letters" (sp_unpX K CE tP))
    (F_err : FnE P w K mg base C8.CX0 1 fE fdE ["e"] (sp_err CE)) (F_errM : mg "_law_refusal" = some (.ref fE)) (F_errK : PySem.W.keepIn K (.ref fE) = true) (F_errB : Binds K fdE ["e"] []) : C8.Cal P w K mg base 8 "_law_called" (sp_called K tP) [] := by
  refine mk d sc__law_called (fun _ _ _ _ _ _ us hl => match us, hl with | [_, _, _], _ => rfl) (fun vs H Q E h => ?_) (fun f cdv A outer s H vs Q E hr h => ?_)
  · rcases h with (⟨a, ws, k, R0, rfl, _⟩ | ⟨a, ws, ls, r, k, R0, rfl, _⟩) | ⟨v, d, R0, z, ⟨rfl, _⟩ | ⟨rfl, _⟩, _⟩ | ⟨a, ws, R0, rfl, _⟩ <;> rfl
  · rcases h with h | h | h
    · exact b_calledG T R c__law_copyL c__law_alike c_pack_letter ck_pack_letter_letter c_unpack_letters ck_unpack_letters_words F_err F_errM F_errK F_errB f cdv A outer s H vs Q E hr h
    · exact b_calledX T R c__law_copy c__law_alike c_pack_letter cx_pack cx_unpack ck_unpack_letters_words F_err F_errM F_errK F_errB f cdv A outer s H vs Q E hr h
    · exact b_calledS T R c__law_copyL c__law_alike c_pack_letter cx_pack cx_unpack ck_unpack_letters_words F_err F_errM F_errK F_errB f cdv A outer s H vs Q E hr h
end
end
end K46
set_option Elab.async false
set_option linter.all false
set_option maxRecDepth 100000
set_option maxHeartbeats 4000000
namespace K46
open PySem PySem.Spec PyProof.Rows L2 Wk
local macro_rules | `(tactic| walk_at "u1") => `(tactic| fail "no more")
local macro_rules | `(tactic| walk_at "pos") => `(tactic| first | assumption | omega | decide | (simp only [Int.ofNat_eq_natCast] at *; omega))
local macro_rules | `(tactic| walk_at "sz") => `(tactic| first
  | (simp only [List.length_cons, List.length_nil]; decide)
  | exact Evl.sz_of (by omega)
  | exact Evl.sz_lt (by omega)
  | exact Evl.sz_of (by simp only [List.length_map, List.length_append, List.length_cons, List.length_nil, List.length_replicate]; omega)
  | exact Evl.sz_lt (by simp only [List.length_map, List.length_append, List.length_cons, List.length_nil, List.length_replicate]; omega))
local macro_rules | `(tactic| walk_at "cond") => `(tactic| first
  | exact Or.inr ⟨by decide, by decide⟩
  | (show (0 : Int) < _; first | decide | assumption | omega)
  | exact Or.inl ⟨by omega, by omega⟩
  | exact Or.inr ⟨by omega, by omega⟩
  | exact ⟨by decide, by decide, by decide⟩
  | exact log2_lt (by omega) (by omega)
  | exact ⟨by omega, by omega⟩)
local macro_rules | `(tactic| walk_at "ty") => `(tactic| first
  | exact ty_int | exact ty_bl | exact ty_str | exact ty_non
  | exact ty_L (by assumption) | exact ty_T (by assumption)
  | exact ty_L (SqL.of (by assumption)) | exact ty_T (SqT.of (by assumption)))
local macro_rules | `(tactic| walk_at "kit") => `(tactic| first
  | exact k_ii | exact k_ib | exact k_is | exact k_il | exact k_it
  | exact k_bb | exact k_bi | exact k_bs | exact k_bl | exact k_bt
  | exact k_ss | exact k_sb | exact k_si | exact k_sl | exact k_st
  | exact k_ll | exact k_lb | exact k_li | exact k_ls | exact k_lt
  | exact k_tt | exact k_tb | exact k_ti | exact k_ts | exact k_tl
  | exact k_nn | exact k_ni | exact k_ns | exact k_nl | exact k_nt)
local macro_rules | `(tactic| walk_at "s1") => `(tactic| first
  | with_reducible refine w_seq ?_
  | with_reducible refine w_set ?_
  | with_reducible refine w_op ?_
  | ((with_reducible refine' w_var ?h1 ?_); (case h1 => rfl))
  | with_reducible refine w_c ?_
  | with_reducible refine w_cb ?_
  | with_reducible refine w_cons ?_
  | with_reducible refine w_nil ?_
  | with_reducible refine w_I0 ?_
  | ((with_reducible refine' w_I ?c1 ?_); case c1 => walk_at "cond")
  | with_reducible refine w_ret ?_
  | with_reducible refine w_next ?_
  | with_reducible refine w_ifS ?_
  | with_reducible refine w_test ?_
  | with_reducible refine w_tB ?_
  | with_reducible refine w_k ?_
  | with_reducible refine w_eqI ?_
  | with_reducible refine w_neI ?_
  | with_reducible refine w_eqS ?_
  | with_reducible refine w_neS ?_
  | with_reducible refine w_and ?_
  | with_reducible refine w_or ?_
  | with_reducible refine w_not ?_
  | with_reducible refine w_andV ?_
  | with_reducible refine w_orV ?_
  | with_reducible refine w_notV ?_
  | with_reducible refine w_ifE ?_
  | with_reducible refine w_true ?_
  | with_reducible refine w_false ?_
  | with_reducible refine w_ntrue ?_
  | with_reducible refine w_nfalse ?_
  | with_reducible refine w_call ?_
  | with_reducible refine c_int ?_
  | with_reducible refine c_abs ?_
  | with_reducible refine c_max ?_
  | with_reducible refine c_min ?_
  | with_reducible refine w_drop ?_
  | with_reducible refine w_sfld ?_
  | with_reducible refine w_meth ?_
  | with_reducible refine w_make ?_
  | with_reducible refine w_prop ?_
  | with_reducible refine w_callK ?_
  | with_reducible refine w_callN ?_
  | with_reducible refine w_star ?_
  | with_reducible refine w_gcons ?_
  | with_reducible refine w_gname ?_
  | with_reducible refine w_gnil ?_
  | with_reducible refine w_retN ?_
  | with_reducible refine w_tup ?_
  | with_reducible refine w_lst ?_
  | with_reducible refine w_fld ?_
  | with_reducible refine w_bm ?_
  | with_reducible refine w_bm0 ?_
  | with_reducible refine w_forL ?_
  | with_reducible refine w_forT ?_
  | with_reducible refine w_forS ?_
  | with_reducible refine w_forR ?_
  | with_reducible refine w_lcR ?_
  | with_reducible refine w_lcL ?_
  | with_reducible refine w_lcT ?_
  | with_reducible refine w_isN ?_
  | with_reducible refine w_notN ?_
  | with_reducible refine w_asg ?_
  | with_reducible refine w_gsub ?_
  | ((with_reducible refine' w_aug ?h1 ?_); (case h1 => rfl))
  | with_reducible refine w_augS ?_
  | with_reducible refine w_ipI ?_
  | with_reducible refine w_un ?_
  | with_reducible refine w_U ?_
  | ((with_reducible refine' w_iteF ?f1 ?_); case f1 => (first | (intro h; cases h; done) | decide))
  | ((with_reducible refine' w_iteT ?f1 ?_); case f1 => rfl)
  | ((with_reducible refine' w_iteNF ?f1 ?_); case f1 => rfl)
  | ((with_reducible refine' w_iteNT ?f1 ?_); case f1 => (first | (intro h; cases h; done) | decide))
  | ((with_reducible refine' c_isi ?t1 ?k1 ?_); (case t1 => walk_at "ty"); (case k1 => walk_at "kit"))
  | ((with_reducible refine' w_eq ?e1 ?_); case e1 => rfl)
  | ((with_reducible refine' w_ne ?e1 ?_); case e1 => rfl)
  | walk_at "u1")
local macro_rules | `(tactic| walk_at "s") => `(tactic| repeat walk_at "s1")
local macro_rules | `(tactic| walk_at "mem") => `(tactic| first | with_reducible exact List.mem_cons_self .. | ((with_reducible refine' List.mem_cons_of_mem _ ?q); (case q => walk_at "mem")) | assumption | ((with_reducible refine' List.mem_append_right _ ?q); (case q => walk_at "mem")) | (exact List.mem_append_left _ (by assumption)))
local macro_rules | `(tactic| walk_at "pk") => `(tactic| first | with_reducible exact Pk.here | ((with_reducible refine' Pk.there ?q); (case q => walk_at "pk")) | ((with_reducible refine' Pk.app ?q); (case q => walk_at "pk")))
local macro_rules | `(tactic| walk_at "pkb") => `(tactic| first | with_reducible exact PkB.here | ((with_reducible refine' PkB.there ?q); (case q => walk_at "pkb")) | ((with_reducible refine' PkB.app ?q); (case q => walk_at "pkb")))
local macro_rules | `(tactic| walk_at "spl") => `(tactic| first | with_reducible exact Spl.nil | ((with_reducible refine' Spl.cons ?h ?t); (case h => walk_at "pk"); (case t => walk_at "spl")) | ((with_reducible refine' Spl.blk ?h ?t); (case h => walk_at "pkb"); (case t => walk_at "spl")))
local macro_rules | `(tactic| walk_at "sbx") => `(tactic| first | with_reducible exact Sb.refl | with_reducible exact Sb.nil | with_reducible exact Sb.left | ((with_reducible refine' Sb.cons ?h ?t); (case h => walk_at "pk"); (case t => walk_at "sbx")) | ((with_reducible refine' Sb.blk ?h ?t); (case h => walk_at "pkb"); (case t => walk_at "sbx")) | ((with_reducible refine' Sb.drop ?q); (case q => walk_at "sbx")) | ((with_reducible refine' Sb.right ?q); (case q => walk_at "sbx")))
local macro_rules | `(tactic| walk_at "hd") => `(tactic| first | assumption | exact Hd.sb (by assumption) (by walk_at "sbx"))
local macro_rules | `(tactic| walk_at "sq") => `(tactic| first
  | assumption
  | exact Hd.sqL (by assumption) (by walk_at "mem")
  | exact Hd.sqT (by assumption) (by walk_at "mem")
  | exact Hd.sqF (by assumption) (by walk_at "mem")
  | (refine .inl ?_; walk_at "sq")
  | (refine .inr ?_; walk_at "sq"))
local macro_rules | `(tactic| walk_at "at") => `(tactic| first | rfl | assumption | exact atI_nat (by assumption))
local macro_rules | `(tactic| walk_at "dn1") => `(tactic| first
  | exact Dn.int | exact Dn.str | exact Dn.non | exact Dn.bl | assumption
  | ((refine' Dn.tp ?a1 ?m1 ?l1 ?p1); (case a1 => assumption); (case m1 => walk_at "mem"); (case l1 => (simp only [List.length_cons, List.length_nil]; omega)); (case p1 => walk_at "dns"))
  | ((refine' Dn.lt ?a1 ?m1 ?l1 ?p1); (case a1 => assumption); (case m1 => walk_at "mem"); (case l1 => (simp only [List.length_cons, List.length_nil]; omega)); (case p1 => walk_at "dns")))
local macro_rules | `(tactic| walk_at "dns") => `(tactic| first | exact Paired.nil | exact Dn.ints | ((refine' Paired.cons ?a1 ?b1); (case a1 => walk_at "dn1"); (case b1 => walk_at "dns")))
local macro_rules | `(tactic| walk_at "g1") => `(tactic| first
  | ((with_reducible refine' g_ixI ?h1 ?h2 ?h3 ?_); (case h1 => assumption); (case h2 => walk_at "mem"); (case h3 => omega); intro z hz)
  | ((with_reducible refine' g_ixIT ?h1 ?h2 ?h3 ?_); (case h1 => assumption); (case h2 => walk_at "mem"); (case h3 => omega); intro z hz)
  | ((with_reducible refine' g_setI ?h1 ?h2 ?h3 ?_); (case h1 => assumption); (case h2 => walk_at "pk"); (case h3 => omega); intro H2 hh2)
  | ((with_reducible refine' w_ixL ?h1 ?h2 ?_); (case h1 => walk_at "sq"); (case h2 => walk_at "at"))
  | ((with_reducible refine' w_ixT ?h1 ?h2 ?_); (case h1 => walk_at "sq"); (case h2 => walk_at "at"))
  | ((with_reducible refine' w_ixAny ?h1 ?h2 ?_); (case h1 => walk_at "sq"); (case h2 => walk_at "at"))
  | ((with_reducible refine' c_lenA ?h1 ?_); (case h1 => walk_at "sq"))
  | ((with_reducible refine' c_isi ?t1 ?k1 ?_); (case t1 => first | exact ty_T (by walk_at "sq") | exact ty_L (by walk_at "sq")); (case k1 => walk_at "kit"))
  | ((with_reducible refine' g_lst ?h1 ?h2 ?_); (case h1 => assumption); (case h2 => walk_at "sz"); intro p H2 hh2)
  | ((with_reducible refine' g_tup ?h1 ?h2 ?_); (case h1 => assumption); (case h2 => walk_at "sz"); intro p H2 hh2)
  | ((with_reducible refine' g_dict ?h1 ?_); (case h1 => assumption); intro p H2 hh2)
  | ((with_reducible refine' g_listL ?h1 ?h2 ?_); (case h1 => assumption); (case h2 => walk_at "sq"); intro p H2 hh2)
  | ((with_reducible refine' g_listT ?h1 ?h2 ?_); (case h1 => assumption); (case h2 => walk_at "sq"); intro p H2 hh2)
  | ((with_reducible refine' g_tupL ?h1 ?h2 ?_); (case h1 => assumption); (case h2 => walk_at "sq"); intro p H2 hh2)
  | ((with_reducible refine' g_set ?h1 ?h2 ?h3 ?_); (case h1 => assumption); (case h2 => walk_at "pk"); (case h3 => first | rfl | assumption | exact Evl.ixN_nat (by first | omega | (simp only [List.length_cons, List.length_nil]; omega))); intro H2 hh2)
  | ((with_reducible refine' g_kbm ?h1 ?h2 ?_); (case h1 => assumption); (case h2 => walk_at "mem"))
  | ((with_reducible refine' g_kbm0 ?h1 ?h2 ?_); (case h1 => assumption); (case h2 => walk_at "mem"))
  | ((with_reducible refine' g_app ?h1 ?h2 ?h3 ?_); (case h1 => assumption); (case h2 => walk_at "pk"); (case h3 => walk_at "sz"); intro H2 hh2)
  | ((with_reducible refine' g_kapp ?h1 ?h2 ?h3 ?_); (case h1 => assumption); (case h2 => walk_at "pk"); (case h3 => walk_at "sz"); intro H2 hh2)
  | ((with_reducible refine' g_fld ?h1 ?h2 ?h3 ?h4 ?h5 ?_); (case h1 => assumption); (case h2 => walk_at "mem"); (case h3 => assumption); (case h4 => assumption); (case h5 => rfl))
  | ((with_reducible refine' g_sfld ?h1 ?h2 ?h3 ?h4 ?h5 ?_); (case h1 => assumption); (case h2 => walk_at "pk"); (case h3 => assumption); (case h4 => assumption); (case h5 => decide); intro H2 hh2)
  | ((with_reducible refine' g_meth ?h1 ?h2 ?h3 ?_); (case h1 => assumption); (case h2 => walk_at "mem"); (case h3 => rfl))
  | ((with_reducible refine' g_prop ?h1 ?h2 ?_); (case h1 => assumption); (case h2 => walk_at "mem"))
  | ((with_reducible refine' g_make ?h1 ?_); (case h1 => assumption); intro x H2 hh2)
  | ((with_reducible refine' g_cat ?h1 ?h2 ?h3 ?h4 ?_); (case h1 => assumption); (case h2 => walk_at "mem"); (case h3 => walk_at "mem"); (case h4 => walk_at "sz"); intro p H2 hh2)
  | ((with_reducible refine' g_inT ?h1 ?h2 ?h3 ?h4 ?h5 ?_); (case h1 => assumption); (case h2 => walk_at "mem"); (case h3 => rfl); (case h4 => rfl); (case h5 => rfl)))
local macro_rules | `(tactic| walk_at "gs") => `(tactic| repeat first | walk_at "s1" | walk_at "g1")
local macro_rules | `(tactic| walk_at "ite") => `(tactic| first
  | ((with_reducible refine' w_iteT ?h1 ?_); (case h1 => omega))
  | ((with_reducible refine' w_iteF ?h1 ?_); (case h1 => omega))
  | (with_reducible refine w_ite ?_ ?_ <;> intro hq)
  | ((with_reducible refine' w_iteNT ?h1 ?_); (case h1 => omega))
  | ((with_reducible refine' w_iteNF ?h1 ?_); (case h1 => omega))
  | (with_reducible refine w_iteN ?_ ?_ <;> intro hq))
local macro_rules | `(tactic| walk_at "go") => `(tactic| repeat' first | walk_at "s1" | walk_at "g1" | walk_at "ite")
local macro_rules | `(tactic| walk_at "g1") => `(tactic| first
  | ((with_reducible refine' g_take1 ?h1 ?h2 ?h3 ?h4 ?_); (case h1 => assumption); (case h2 => walk_at "spl"); (case h3 => omega); (case h4 => omega); intro k H2 hk1 hh2)
  | ((with_reducible refine' g_take ?h1 ?h2 ?h4 ?_); (case h1 => assumption); (case h2 => walk_at "spl"); (case h4 => omega); intro k H2 hk1 hh2)
  | ((with_reducible refine' g_betweenN ?h1 ?h2 ?h5 ?h3 ?h4 ?_); (case h1 => assumption); (case h2 => walk_at "spl"); (case h5 => omega); (case h3 => omega); (case h4 => omega); intro k H2 hk1 hk2 hh2)
  | ((with_reducible refine' g_between ?h1 ?h2 ?h3 ?h4 ?_); (case h1 => assumption); (case h2 => walk_at "spl"); (case h3 => omega); (case h4 => omega); intro k H2 hk1 hk2 hh2)
  | ((with_reducible refine' g_size ?h1 ?h2 ?h3 ?h4 ?_); (case h1 => assumption); (case h2 => walk_at "spl"); (case h3 => omega); (case h4 => omega); intro k H2 hk1 hh2)
  | ((with_reducible refine' g_word ?h1 ?h2 ?_); (case h1 => assumption); (case h2 => walk_at "spl"); intro k H2 hk1 hh2))
local macro_rules | `(tactic| walk_at "g1") => `(tactic| first | with_reducible refine w_sl ?_ | with_reducible refine w_part ?_ | with_reducible refine w_noPart ?_ | with_reducible refine w_exI ?_)
section
variable {P : Program} {w : World} {K : PySem.W.Frag} {mg : Str → Option Value} {base : Heap} {aREG aOPS : Addr}
/-- the letters, packed and joined -/
def packs : List (List Int) → List Int
  | [] => []
  | l :: ls => (l.length : Int) :: (l ++ packs ls)
theorem packs_app : ∀ (xs ys : List (List Int)), packs (xs ++ ys) = packs xs ++ packs ys
  | [], _ => rfl
  | l :: xs, ys => by
    show (l.length : Int) :: (l ++ packs (xs ++ ys)) = (l.length : Int) :: (l ++ packs xs) ++ packs ys
    rw [packs_app xs ys, List.cons_append, List.append_assoc]
theorem packs_len : ∀ {ls : List (List Int)}, (∀ l ∈ ls, l.length ≤ 7) → (packs ls).length ≤ 8 * ls.length
  | [], _ => Nat.le_refl _
  | l :: ls, h => by
    have h1 := h l (List.mem_cons_self ..)
    have h2 := packs_len (ls := ls) fun x hx => h x (List.mem_cons_of_mem _ hx)
    show ((l.length : Int) :: (l ++ packs ls)).length ≤ 8 * (ls.length + 1)
    rw [List.length_cons, List.length_append]
    omega
theorem packs_word : ∀ {ls : List (List Int)}, (∀ l ∈ ls, l.length ≤ 7 ∧ ∀ x ∈ l, (0 : Int) ≤ x ∧ x ≤ 65535) → ∀ x ∈ packs ls, (0 : Int) ≤ x ∧ x ≤ 65535
  | [], _, _, h => absurd h (List.not_mem_nil)
  | l :: ls, h, x, hx => by
    obtain ⟨h1, h2⟩ := h l (List.mem_cons_self ..)
    rcases List.mem_cons.mp hx with z | z
    · rw [z]; omega
    · rcases List.mem_append.mp z with z | z
      · exact h2 x z
      · exact packs_word (fun y hy => h y (List.mem_cons_of_mem _ hy)) x z
/-- where the first i letters end -/
def offs (ls : List (List Int)) (i : Nat) : List Int := (List.range (i + 1)).map fun j => ((packs (ls.take j)).length : Int)
theorem offs_succ (ls : List (List Int)) (i : Nat) : offs ls (i + 1) = offs ls i ++ [((packs (ls.take (i + 1))).length : Int)] := by
  unfold offs
  rw [List.range_succ, List.map_append]
  rfl
theorem offs_len (ls : List (List Int)) (i : Nat) : (offs ls i).length = i + 1 := by
  unfold offs
  rw [List.length_map, List.length_range]
/-- the letters ls stand at xs, somewhere in Z -/
def LsB (K : PySem.W.Frag) (Z : List Cell) (xs : List V) (ls : List (List Int)) : Prop := ∀ H, Hd H Z → Paired (fun v l => ∃ a, v = .ref a ∧ H a = some (.lst (l.map V.int))) xs ls
theorem LsB.dn {Z : List Cell} {xs : List V} {ls : List (List Int)} {H : Hp} (h : LsB K Z xs ls) (h7 : ∀ l ∈ ls, l.length ≤ 7) (hz : Hd H Z) : Paired (Dn K [] H 1) xs (ls.map fun l => PyData.list (l.map PyData.int)) := by
  have key : ∀ {xs : List V} {ls : List (List Int)}, (∀ l ∈ ls, l.length ≤ 7) → Paired (fun v l => ∃ a, v = .ref a ∧ H a = some (.lst (l.map V.int))) xs ls → Paired (Dn K [] H 1) xs (ls.map fun l => PyData.list (l.map PyData.int)) := by
    intro xs ls h7 p
    induction p with
    | nil => exact .nil
    | cons r t ih =>
      obtain ⟨a, rfl, e⟩ := r
      exact .cons (Dn.lst (SqL.of e) (by simp) (by rw [List.length_map]; have := h7 _ (List.mem_cons_self ..); omega) Dn.ints) (ih fun x hx => h7 x (List.mem_cons_of_mem _ hx))
  exact key h7 (h H hz)
def sp_joined (K : PySem.W.Frag) (tP : Addr) : Sp := fun vs H Q _ => ∃ (lp : Addr) (xs : List V) (ls : List (List Int)) (Z R : List Cell), vs = [.ref lp] ∧ ls.length ≤ 50 ∧ (∀ l ∈ ls, l.length ≤ 7 ∧ ∀ x ∈ l, (0 : Int) ≤ x ∧ x ≤ 65535) ∧ LsB K Z xs ls ∧ Hd H (tblC tP :: lstC lp xs :: (Z ++ R)) ∧
  ∀ (t sp_ wp : Addr) H', Hd H' (tupC t [.ref sp_, .ref wp] :: lstC sp_ ((offs ls ls.length).map V.int) :: lstC wp ((packs ls).map V.int) :: tblC tP :: lstC lp xs :: (Z ++ R)) → Q (.ref t) H'
theorem c_joined {tP : Addr} (T : Txt K mg aREG aOPS) (d : DefAt K mg "_law_joined" s__law_joined) (c__law_copy : C8.Cal P w K mg base 2 "_law_copy" (sp_copy K 2) []) (c__law_alike : C8.Cal P w K mg base 4 "_law_alike" (sp_alike K 4) [])
    (c__law_called : C8.Cal P w K mg base 8 "_law_called" (sp_called K tP) []) : C8.Cal P w K mg base 9 "_law_joined" (sp_joined K tP) [] := by
  refine mk d sc__law_joined (fun _ _ _ _ _ _ us hl => match us, hl with | [_], _ => rfl) (fun vs H Q E h => ?_) (fun f cdv A outer s H vs Q E hr h => ?_)
  · obtain ⟨lp, xs, ls, Z, R, rfl, _⟩ := h
    rfl
  · obtain ⟨lp, xs, ls, Z, R, rfl, hn, hw, hz, hh, q⟩ := h
    refine ⟨_, (pss_cons (ps_set (i := 1) sc__law_joined.nd rfl (Or.inl rfl) (pe_lst (pa_cons pe_int pa_nil)))
  (pss_cons (ps_set (i := 2) sc__law_joined.nd rfl (Or.inl rfl) (pe_lst pa_nil))
  (pss_cons (ps_set (i := 3) sc__law_joined.nd rfl (Or.inl rfl) (pe_lst pa_nil))
  (pss_cons (ps_for PassesOwn.never rfl (pi_list (pv 0)) (pg_name (i := 4) sc__law_joined.nd rfl (Or.inl rfl))
    (pss_cons (ps_set (i := 5) sc__law_joined.nd rfl (Or.inl rfl) (C8.pe_c c__law_copy hr (by first | decide | omega) rfl (pa_cons (pv 3) pa_nil)))
      (pss_cons (ps_set (i := 6) sc__law_joined.nd rfl (Or.inl rfl) (C8.pe_c c__law_called hr (by first | decide | omega) rfl (pa_cons pe_str (pa_cons (pv 4) (pa_cons (pe_op op_mod (pe_callTy Wk.b_int (by rfl) T.b_int (by decide +kernel) (pa_cons (pe_callB Wk.b_len (by rfl) T.b_len (by decide +kernel) (pa_cons (pv 1) pa_nil)) pa_nil)) pe_int) pa_nil)))))
      (pss_cons (ps_if (PW.pt (pw_or (pt_not (pt_val (C8.pe_c c__law_alike hr (by first | decide | omega) rfl (pa_cons (pe_tup (pa_cons pe_str (pa_cons (pe_op op_cat (pe_lst (pa_cons (pe_callB Wk.b_len (by rfl) T.b_len (by decide +kernel) (pa_cons (pv 4) pa_nil)) pa_nil)) (pv 4)) pa_nil))) (pa_cons (pv 6) pa_nil))))) (pw_or1 (pt_not (pt_val (C8.pe_c c__law_alike hr (by first | decide | omega) rfl (pa_cons (pv 5) (pa_cons (pv 3) pa_nil))))))))
        (pss_one (ps_ret pe_non))
        pss_nil)
      (pss_cons (ps_set (i := 2) sc__law_joined.nd rfl (Or.inl rfl) (pe_op op_cat (pv 2) (pe_ix ix_tup (pv 6) pe_int (fun _ _ => rfl))))
      (pss_cons (ps_set (i := 3) sc__law_joined.nd rfl (Or.inl rfl) (pe_ix ix_tup (pv 6) pe_int (fun _ _ => rfl)))
      (pss_cons (ps_expr (pe_bm PySem.F.plainAttrs_list PySem.F.slot_list_append PySem.F.type_list_append mt_append (pe_ix ix_tup (pv 6) pe_int (fun _ _ => rfl)) (pa_cons pe_int pa_nil)))
      (pss_one (ps_expr (pe_bm PySem.F.plainAttrs_list PySem.F.slot_list_append PySem.F.type_list_append mt_append (pv 1) (pa_cons (pe_callB Wk.b_len (by rfl) T.b_len (by decide +kernel) (pa_cons (pv 2) pa_nil)) pa_nil)))))))))))
  (pss_one (ps_ret (pe_tup (pa_cons (pv 1) (pa_cons (pv 2) pa_nil))))))))), ?_⟩
    walk_at "gs"
    rename_i sp_ H1 h1 wp H2 h2 ep H3 h3
    have el : xs.length = ls.length := (hz _ (Hd.sb hh (by walk_at "sbx"))).length
    have h3' : Hd H3 (lstC sp_ ((offs ls 0).map V.int) :: lstC wp ((packs (ls.take 0)).map V.int) :: lstC ep (([] : List Int).map V.int) :: tblC tP :: lstC lp xs :: (Z ++ R)) := Hd.sb (A := lstC sp_ [.int 0] :: lstC wp [] :: lstC ep [] :: tblC tP :: lstC lp xs :: (Z ++ R)) h3 (by walk_at "sbx")
    refine l_list (Hd.sqL (xs := xs) h3' (by walk_at "mem")) (fun i σ H => ∃ (wp ep : Addr) (es : List Int) (v4 v5 v6 : Option V), σ = [some (.ref lp), some (.ref sp_), some (.ref wp), some (.ref ep), v4, v5, v6] ∧ es.length ≤ 9 ∧
      Hd H (lstC sp_ ((offs ls i).map V.int) :: lstC wp ((packs (ls.take i)).map V.int) :: lstC ep (es.map V.int) :: tblC tP :: lstC lp xs :: (Z ++ R))) ⟨wp, ep, [], none, none, none, rfl, by simp, h3'⟩ ?_ ?_ ?_
    · rintro i σ H _ ⟨_, _, _, _, _, _, _, _, h⟩
      exact Hd.sqL h (by walk_at "mem")
    · rintro i y σ H4 hy ⟨wp, ep, es, v4, v5, v6, rfl, he, h4⟩
      have hi : i < ls.length := by rw [← el]; exact (List.getElem?_eq_some_iff.mp hy).1
      have hb := hz _ (Hd.sb h4 (by walk_at "sbx"))
      obtain ⟨l, hl, a, rfl, ha⟩ := paired_at hb hy
      obtain ⟨hl7, hlw⟩ := hw l (List.mem_of_getElem? hl)
      have hst : ∀ H', Hd H' Z → H' a = some (.lst (l.map V.int)) := fun H' hz' => by
        obtain ⟨l', hl', a', e', ha'⟩ := paired_at (hz _ hz') hy
        rw [hl] at hl'
        cases hl'
        cases e'
        exact ha'
      have hsq : ∀ H', Hd H' Z → SqL K H' a (l.map V.int) := fun H' hz' => SqL.of (hst H' hz')
      walk_at "gs"
      refine g_copyZ (k := 1) (d := .list (es.map PyData.int)) h4 (Dn.lt (n := 0) h4 (by walk_at "mem") (by rw [List.length_map]; omega) Dn.ints) fun kp Zk H5 h5 zk => ?_
      walk_at "gs"
      rw [List.length_map, offs_len, show (((i + 1 : Nat) : Int) % 2) = (((i + 1) % 2 : Nat) : Int) from by omega]
      have h5 := Hd.sb (A := tblC tP :: (Zk ++ (lstC sp_ ((offs ls i).map V.int) :: lstC wp ((packs (ls.take i)).map V.int) :: lstC ep (es.map V.int) :: lstC lp xs :: (Z ++ R)))) h5 (by walk_at "sbx")
      refine .inl <| .inl ⟨a, l, (i + 1) % 2, _, rfl, by omega, hl7, hlw, fun H' hz' => hsq H' (Hd.sb hz' (by walk_at "sbx")), h5, fun t p H6 h6 => ?_⟩
      walk_at "gs"
      refine c_lenL (hsq _ (Hd.sb h6 (by walk_at "sbx"))) ?_
      walk_at "gs"
      rename_i p1 H7 h7
      refine w_cat (h7.lst (by walk_at "mem")) (hst _ (Hd.sb h7 (by walk_at "sbx"))) (by rw [List.length_map, sizeLine_eq]; show 1 + l.length ≤ _; omega) fun p2 H8 n8 => ?_
      have h8 := h7.newL n8
      rw [List.length_map] at h8
      replace h8 : Hd H8 (lstC p2 (((l.length : Int) :: l).map V.int) :: _) := h8
      replace h8 := Hd.sb (A := lstC p2 (((l.length : Int) :: l).map V.int) :: tupC t [V.str "answer", V.ref p] :: lstC p (((l.length : Int) :: l).map V.int) :: tblC tP :: (Zk ++ (lstC sp_ ((offs ls i).map V.int) :: lstC wp ((packs (ls.take i)).map V.int) :: lstC ep (es.map V.int) :: lstC lp xs :: (Z ++ R)))) h8 (by walk_at "sbx")
      walk_at "gs"
      rename_i t2 H9 h9
      refine u_alike (n := 3) (d := .tuple [.str "answer", .list (((l.length : Int) :: l).map PyData.int)]) (Dn.tp (n := 2) h9 (by walk_at "mem") (by simp) (.cons Dn.str (.cons (Dn.lt (n := 1) h9 (by walk_at "mem") (by rw [List.length_map, List.length_cons]; omega) Dn.ints) .nil))) (Dn.tp (n := 2) h9 (by walk_at "mem") (by simp) (.cons Dn.str (.cons (Dn.lt (n := 1) h9 (by walk_at "mem") (by rw [List.length_map, List.length_cons]; omega) Dn.ints) .nil))) ?_
      walk_at "gs"
      refine u_alike (n := 3) (d := .list (es.map PyData.int)) (Dn.up (by omega) (zk _ (Hd.sb h9 (by walk_at "sbx")))) (Dn.lt (n := 2) h9 (by walk_at "mem") (by rw [List.length_map]; omega) Dn.ints) ?_
      walk_at "gs"
      have hpl := packs_len (ls := ls.take i) (fun x hx => (hw x (List.mem_of_mem_take hx)).1)
      rw [List.length_take] at hpl
      refine g_cat h9 (by walk_at "mem") (by walk_at "mem") (by rw [List.length_map, List.length_map, List.length_cons, sizeLine_eq]; omega) fun p4 H10 h10 => ?_
      have ep4 : packs (ls.take (i + 1)) = packs (ls.take i) ++ (((l.length : Int) :: l)) := by
        rw [take_succ' hl, packs_app]
        show _ ++ ((l.length : Int) :: (l ++ [])) = _
        rw [List.append_nil]
      rw [← List.map_append, ← ep4] at h10
      replace h10 := Hd.sb (A := lstC p4 ((packs (ls.take (i + 1))).map V.int) :: lstC p (((l.length : Int) :: l).map V.int) :: lstC sp_ ((offs ls i).map V.int) :: tupC t [V.str "answer", V.ref p] :: tblC tP :: lstC lp xs :: (Z ++ R)) h10 (by walk_at "sbx")
      walk_at "gs"
      rename_i H11 h11
      refine g_app h11 (by walk_at "pk") (by rw [List.length_map, offs_len, sizeLine_eq]; omega) fun H12 h12 => ?_
      rw [List.length_map] at h12
      refine ⟨p4, p, ((l.length : Int) :: l) ++ [8], some (.ref a), some kp, some (.ref t), rfl, by rw [List.length_append, List.length_cons, List.length_singleton]; omega, ?_⟩
      rw [offs_succ, List.map_append, List.map_append]
      exact Hd.sb (A := lstC sp_ ((offs ls i).map V.int ++ [V.int ((packs (ls.take (i + 1))).length : Int)]) :: lstC p4 ((packs (ls.take (i + 1))).map V.int) :: lstC p (((l.length : Int) :: l).map V.int ++ [V.int 8]) :: tblC tP :: lstC lp xs :: (Z ++ R)) h12 (by walk_at "sbx")
    · rintro σ H4 ⟨wp, ep, es, v4, v5, v6, rfl, he, h4⟩
      walk_at "gs"
      rename_i t H5 h5
      rw [el, List.take_length] at h5
      exact q t sp_ wp H5 (Hd.sb h5 (by walk_at "sbx"))
end
end K46
set_option Elab.async false
set_option linter.all false
set_option maxRecDepth 100000
set_option maxHeartbeats 4000000
namespace K46
open PySem PySem.Spec PyProof.Rows L2 Wk
local macro_rules | `(tactic| walk_at "u1") => `(tactic| fail "no more")
local macro_rules | `(tactic| walk_at "pos") => `(tactic| first | assumption | omega | decide | (simp only [Int.ofNat_eq_natCast] at *; omega))
local macro_rules | `(tactic| walk_at "sz") => `(tactic| first
  | (simp only [List.length_cons, List.length_nil]; decide)
  | exact Evl.sz_of (by omega)
  | exact Evl.sz_lt (by omega)
  | exact Evl.sz_of (by simp only [List.length_map, List.length_append, List.length_cons, List.length_nil, List.length_replicate]; omega)
  | exact Evl.sz_lt (by simp only [List.length_map, List.length_append, List.length_cons, List.length_nil, List.length_replicate]; omega))
local macro_rules | `(tactic| walk_at "cond") => `(tactic| first
  | exact Or.inr ⟨by decide, by decide⟩
  | (show (0 : Int) < _; first | decide | assumption | omega)
  | exact Or.inl ⟨by omega, by omega⟩
  | exact Or.inr ⟨by omega, by omega⟩
  | exact ⟨by decide, by decide, by decide⟩
  | exact log2_lt (by omega) (by omega)
  | exact ⟨by omega, by omega⟩)
local macro_rules | `(tactic| walk_at "ty") => `(tactic| first
  | exact ty_int | exact ty_bl | exact ty_str | exact ty_non
  | exact ty_L (by assumption) | exact ty_T (by assumption)
  | exact ty_L (SqL.of (by assumption)) | exact ty_T (SqT.of (by assumption)))
local macro_rules | `(tactic| walk_at "kit") => `(tactic| first
  | exact k_ii | exact k_ib | exact k_is | exact k_il | exact k_it
  | exact k_bb | exact k_bi | exact k_bs | exact k_bl | exact k_bt
  | exact k_ss | exact k_sb | exact k_si | exact k_sl | exact k_st
  | exact k_ll | exact k_lb | exact k_li | exact k_ls | exact k_lt
  | exact k_tt | exact k_tb | exact k_ti | exact k_ts | exact k_tl
  | exact k_nn | exact k_ni | exact k_ns | exact k_nl | exact k_nt)
local macro_rules | `(tactic| walk_at "s1") => `(tactic| first
  | with_reducible refine w_seq ?_
  | with_reducible refine w_set ?_
  | with_reducible refine w_op ?_
  | ((with_reducible refine' w_var ?h1 ?_); (case h1 => rfl))
  | with_reducible refine w_c ?_
  | with_reducible refine w_cb ?_
  | with_reducible refine w_cons ?_
  | with_reducible refine w_nil ?_
  | with_reducible refine w_I0 ?_
  | ((with_reducible refine' w_I ?c1 ?_); case c1 => walk_at "cond")
  | with_reducible refine w_ret ?_
  | with_reducible refine w_next ?_
  | with_reducible refine w_ifS ?_
  | with_reducible refine w_test ?_
  | with_reducible refine w_tB ?_
  | with_reducible refine w_k ?_
  | with_reducible refine w_eqI ?_
  | with_reducible refine w_neI ?_
  | with_reducible refine w_eqS ?_
  | with_reducible refine w_neS ?_
  | with_reducible refine w_and ?_
  | with_reducible refine w_or ?_
  | with_reducible refine w_not ?_
  | with_reducible refine w_andV ?_
  | with_reducible refine w_orV ?_
  | with_reducible refine w_notV ?_
  | with_reducible refine w_ifE ?_
  | with_reducible refine w_true ?_
  | with_reducible refine w_false ?_
  | with_reducible refine w_ntrue ?_
  | with_reducible refine w_nfalse ?_
  | with_reducible refine w_call ?_
  | with_reducible refine c_int ?_
  | with_reducible refine c_abs ?_
  | with_reducible refine c_max ?_
  | with_reducible refine c_min ?_
  | with_reducible refine w_drop ?_
  | with_reducible refine w_sfld ?_
  | with_reducible refine w_meth ?_
  | with_reducible refine w_make ?_
  | with_reducible refine w_prop ?_
  | with_reducible refine w_callK ?_
  | with_reducible refine w_callN ?_
  | with_reducible refine w_star ?_
  | with_reducible refine w_gcons ?_
  | with_reducible refine w_gname ?_
  | with_reducible refine w_gnil ?_
  | with_reducible refine w_retN ?_
  | with_reducible refine w_tup ?_
  | with_reducible refine w_lst ?_
  | with_reducible refine w_fld ?_
  | with_reducible refine w_bm ?_
  | with_reducible refine w_bm0 ?_
  | with_reducible refine w_forL ?_
  | with_reducible refine w_forT ?_
  | with_reducible refine w_forS ?_
  | with_reducible refine w_forR ?_
  | with_reducible refine w_lcR ?_
  | with_reducible refine w_lcL ?_
  | with_reducible refine w_lcT ?_
  | with_reducible refine w_isN ?_
  | with_reducible refine w_notN ?_
  | with_reducible refine w_asg ?_
  | with_reducible refine w_gsub ?_
  | ((with_reducible refine' w_aug ?h1 ?_); (case h1 => rfl))
  | with_reducible refine w_augS ?_
  | with_reducible refine w_ipI ?_
  | with_reducible refine w_un ?_
  | with_reducible refine w_U ?_
  | ((with_reducible refine' w_iteF ?f1 ?_); case f1 => (first | (intro h; cases h; done) | decide))
  | ((with_reducible refine' w_iteT ?f1 ?_); case f1 => rfl)
  | ((with_reducible refine' w_iteNF ?f1 ?_); case f1 => rfl)
  | ((with_reducible refine' w_iteNT ?f1 ?_); case f1 => (first | (intro h; cases h; done) | decide))
  | ((with_reducible refine' c_isi ?t1 ?k1 ?_); (case t1 => walk_at "ty"); (case k1 => walk_at "kit"))
  | ((with_reducible refine' w_eq ?e1 ?_); case e1 => rfl)
  | ((with_reducible refine' w_ne ?e1 ?_); case e1 => rfl)
  | walk_at "u1")
local macro_rules | `(tactic| walk_at "s") => `(tactic| repeat walk_at "s1")
local macro_rules | `(tactic| walk_at "mem") => `(tactic| first | with_reducible exact List.mem_cons_self .. | ((with_reducible refine' List.mem_cons_of_mem _ ?q); (case q => walk_at "mem")) | assumption | ((with_reducible refine' List.mem_append_right _ ?q); (case q => walk_at "mem")) | (exact List.mem_append_left _ (by assumption)))
local macro_rules | `(tactic| walk_at "pk") => `(tactic| first | with_reducible exact Pk.here | ((with_reducible refine' Pk.there ?q); (case q => walk_at "pk")) | ((with_reducible refine' Pk.app ?q); (case q => walk_at "pk")))
local macro_rules | `(tactic| walk_at "pkb") => `(tactic| first | with_reducible exact PkB.here | ((with_reducible refine' PkB.there ?q); (case q => walk_at "pkb")) | ((with_reducible refine' PkB.app ?q); (case q => walk_at "pkb")))
local macro_rules | `(tactic| walk_at "spl") => `(tactic| first | with_reducible exact Spl.nil | ((with_reducible refine' Spl.cons ?h ?t); (case h => walk_at "pk"); (case t => walk_at "spl")) | ((with_reducible refine' Spl.blk ?h ?t); (case h => walk_at "pkb"); (case t => walk_at "spl")))
local macro_rules | `(tactic| walk_at "sbx") => `(tactic| first | with_reducible exact Sb.refl | with_reducible exact Sb.nil | with_reducible exact Sb.left | ((with_reducible refine' Sb.cons ?h ?t); (case h => walk_at "pk"); (case t => walk_at "sbx")) | ((with_reducible refine' Sb.blk ?h ?t); (case h => walk_at "pkb"); (case t => walk_at "sbx")) | ((with_reducible refine' Sb.drop ?q); (case q => walk_at "sbx")) | ((with_reducible refine' Sb.right ?q); (case q => walk_at "sbx")))
local macro_rules | `(tactic| walk_at "hd") => `(tactic| first | assumption | exact Hd.sb (by assumption) (by walk_at "sbx"))
local macro_rules | `(tactic| walk_at "sq") => `(tactic| first
  | assumption
  | exact Hd.sqL (by assumption) (by walk_at "mem")
  | exact Hd.sqT (by assumption) (by walk_at "mem")
  | exact Hd.sqF (by assumption) (by walk_at "mem")
  | (refine .inl ?_; walk_at "sq")
  | (refine .inr ?_; walk_at "sq"))
local macro_rules | `(tactic| walk_at "at") => `(tactic| first | rfl | assumption | exact atI_nat (by assumption))
local macro_rules | `(tactic| walk_at "dn1") => `(tactic| first
  | exact Dn.int | exact Dn.str | exact Dn.non | exact Dn.bl | assumption
  | ((refine' Dn.tp ?a1 ?m1 ?l1 ?p1); (case a1 => assumption); (case m1 => walk_at "mem"); (case l1 => (simp only [List.length_cons, List.length_nil]; omega)); (case p1 => walk_at "dns"))
  | ((refine' Dn.lt ?a1 ?m1 ?l1 ?p1); (case a1 => assumption); (case m1 => walk_at "mem"); (case l1 => (simp only [List.length_cons, List.length_nil]; omega)); (case p1 => walk_at "dns")))
local macro_rules | `(tactic| walk_at "dns") => `(tactic| first | exact Paired.nil | exact Dn.ints | ((refine' Paired.cons ?a1 ?b1); (case a1 => walk_at "dn1"); (case b1 => walk_at "dns")))
local macro_rules | `(tactic| walk_at "g1") => `(tactic| first
  | ((with_reducible refine' g_ixI ?h1 ?h2 ?h3 ?_); (case h1 => assumption); (case h2 => walk_at "mem"); (case h3 => omega); intro z hz)
  | ((with_reducible refine' g_ixIT ?h1 ?h2 ?h3 ?_); (case h1 => assumption); (case h2 => walk_at "mem"); (case h3 => omega); intro z hz)
  | ((with_reducible refine' g_setI ?h1 ?h2 ?h3 ?_); (case h1 => assumption); (case h2 => walk_at "pk"); (case h3 => omega); intro H2 hh2)
  | ((with_reducible refine' w_ixL ?h1 ?h2 ?_); (case h1 => walk_at "sq"); (case h2 => walk_at "at"))
  | ((with_reducible refine' w_ixT ?h1 ?h2 ?_); (case h1 => walk_at "sq"); (case h2 => walk_at "at"))
  | ((with_reducible refine' w_ixAny ?h1 ?h2 ?_); (case h1 => walk_at "sq"); (case h2 => walk_at "at"))
  | ((with_reducible refine' c_lenA ?h1 ?_); (case h1 => walk_at "sq"))
  | ((with_reducible refine' c_isi ?t1 ?k1 ?_); (case t1 => first | exact ty_T (by walk_at "sq") | exact ty_L (by walk_at "sq")); (case k1 => walk_at "kit"))
  | ((with_reducible refine' g_lst ?h1 ?h2 ?_); (case h1 => assumption); (case h2 => walk_at "sz"); intro p H2 hh2)
  | ((with_reducible refine' g_tup ?h1 ?h2 ?_); (case h1 => assumption); (case h2 => walk_at "sz"); intro p H2 hh2)
  | ((with_reducible refine' g_dict ?h1 ?_); (case h1 => assumption); intro p H2 hh2)
  | ((with_reducible refine' g_listL ?h1 ?h2 ?_); (case h1 => assumption); (case h2 => walk_at "sq"); intro p H2 hh2)
  | ((with_reducible refine' g_listT ?h1 ?h2 ?_); (case h1 => assumption); (case h2 => walk_at "sq"); intro p H2 hh2)
  | ((with_reducible refine' g_tupL ?h1 ?h2 ?_); (case h1 => assumption); (case h2 => walk_at "sq"); intro p H2 hh2)
  | ((with_reducible refine' g_set ?h1 ?h2 ?h3 ?_); (case h1 => assumption); (case h2 => walk_at "pk"); (case h3 => first | rfl | assumption | exact Evl.ixN_nat (by first | omega | (simp only [List.length_cons, List.length_nil]; omega))); intro H2 hh2)
  | ((with_reducible refine' g_kbm ?h1 ?h2 ?_); (case h1 => assumption); (case h2 => walk_at "mem"))
  | ((with_reducible refine' g_kbm0 ?h1 ?h2 ?_); (case h1 => assumption); (case h2 => walk_at "mem"))
  | ((with_reducible refine' g_app ?h1 ?h2 ?h3 ?_); (case h1 => assumption); (case h2 => walk_at "pk"); (case h3 => walk_at "sz"); intro H2 hh2)
  | ((with_reducible refine' g_kapp ?h1 ?h2 ?h3 ?_); (case h1 => assumption); (case h2 => walk_at "pk"); (case h3 => walk_at "sz"); intro H2 hh2)
  | ((with_reducible refine' g_fld ?h1 ?h2 ?h3 ?h4 ?h5 ?_); (case h1 => assumption); (case h2 => walk_at "mem"); (case h3 => assumption); (case h4 => assumption); (case h5 => rfl))
  | ((with_reducible refine' g_sfld ?h1 ?h2 ?h3 ?h4 ?h5 ?_); (case h1 => assumption); (case h2 => walk_at "pk"); (case h3 => assumption); (case h4 => assumption); (case h5 => decide); intro H2 hh2)
  | ((with_reducible refine' g_meth ?h1 ?h2 ?h3 ?_); (case h1 => assumption); (case h2 => walk_at "mem"); (case h3 => rfl))
  | ((with_reducible refine' g_prop ?h1 ?h2 ?_); (case h1 => assumption); (case h2 => walk_at "mem"))
  | ((with_reducible refine' g_make ?h1 ?_); (case h1 => assumption); intro x H2 hh2)
  | ((with_reducible refine' g_cat ?h1 ?h2 ?h3 ?h4 ?_); (case h1 => assumption); (case h2 => walk_at "mem"); (case h3 => walk_at "mem"); (case h4 => walk_at "sz"); intro p H2 hh2)
  | ((with_reducible refine' g_inT ?h1 ?h2 ?h3 ?h4 ?h5 ?_); (case h1 => assumption); (case h2 => walk_at "mem"); (case h3 => rfl); (case h4 => rfl); (case h5 => rfl)))
local macro_rules | `(tactic| walk_at "gs") => `(tactic| repeat first | walk_at "s1" | walk_at "g1")
local macro_rules | `(tactic| walk_at "ite") => `(tactic| first
  | ((with_reducible refine' w_iteT ?h1 ?_); (case h1 => omega))
  | ((with_reducible refine' w_iteF ?h1 ?_); (case h1 => omega))
  | (with_reducible refine w_ite ?_ ?_ <;> intro hq)
  | ((with_reducible refine' w_iteNT ?h1 ?_); (case h1 => omega))
  | ((with_reducible refine' w_iteNF ?h1 ?_); (case h1 => omega))
  | (with_reducible refine w_iteN ?_ ?_ <;> intro hq))
local macro_rules | `(tactic| walk_at "go") => `(tactic| repeat' first | walk_at "s1" | walk_at "g1" | walk_at "ite")
local macro_rules | `(tactic| walk_at "g1") => `(tactic| first
  | ((with_reducible refine' g_take1 ?h1 ?h2 ?h3 ?h4 ?_); (case h1 => assumption); (case h2 => walk_at "spl"); (case h3 => omega); (case h4 => omega); intro k H2 hk1 hh2)
  | ((with_reducible refine' g_take ?h1 ?h2 ?h4 ?_); (case h1 => assumption); (case h2 => walk_at "spl"); (case h4 => omega); intro k H2 hk1 hh2)
  | ((with_reducible refine' g_betweenN ?h1 ?h2 ?h5 ?h3 ?h4 ?_); (case h1 => assumption); (case h2 => walk_at "spl"); (case h5 => omega); (case h3 => omega); (case h4 => omega); intro k H2 hk1 hk2 hh2)
  | ((with_reducible refine' g_between ?h1 ?h2 ?h3 ?h4 ?_); (case h1 => assumption); (case h2 => walk_at "spl"); (case h3 => omega); (case h4 => omega); intro k H2 hk1 hk2 hh2)
  | ((with_reducible refine' g_size ?h1 ?h2 ?h3 ?h4 ?_); (case h1 => assumption); (case h2 => walk_at "spl"); (case h3 => omega); (case h4 => omega); intro k H2 hk1 hh2)
  | ((with_reducible refine' g_word ?h1 ?h2 ?_); (case h1 => assumption); (case h2 => walk_at "spl"); intro k H2 hk1 hh2))
local macro_rules | `(tactic| walk_at "g1") => `(tactic| first | with_reducible refine w_sl ?_ | with_reducible refine w_part ?_ | with_reducible refine w_noPart ?_ | with_reducible refine w_exI ?_)
section
variable {P : Program} {w : World} {K : PySem.W.Frag} {mg : Str → Option Value} {base : Heap} {aREG aOPS : Addr}
/-- joined letters up to a place: the letters that end there or ahead of it, and the rest -/
theorem unp_cut : ∀ {ls : List (List Int)} (_ : ∀ l ∈ ls, l.length ≤ 7) {n : Nat}, n ≤ (packs ls).length →
    ∃ k, k ≤ ls.length ∧ (packs (ls.take k)).length ≤ n ∧ (k < ls.length → n < (packs (ls.take (k + 1))).length) ∧ Unp ((packs ls).take n) (ls.take k) (((packs ls).take n).drop (packs (ls.take k)).length)
  | [], _, n, hn => ⟨0, Nat.le_refl _, Nat.zero_le _, fun h => absurd h (Nat.lt_irrefl _), by
      obtain rfl : n = 0 := Nat.le_zero.mp hn
      exact .nil⟩
  | l :: ls, h, n, hn => by
    have h7 := h l (List.mem_cons_self ..)
    have e1 : (packs ((l :: ls).take 1)).length = 1 + l.length := by
      show ((l.length : Int) :: (l ++ [])).length = _
      rw [List.append_nil, List.length_cons]
      omega
    by_cases hl : n < 1 + l.length
    · refine ⟨0, Nat.zero_le _, Nat.zero_le _, fun _ => by rw [e1]; exact hl, ?_⟩
      cases n with
      | zero => exact .nil
      | succ m =>
        show Unp ((l.length : Int) :: (l ++ packs ls).take m) [] ((l.length : Int) :: (l ++ packs ls).take m)
        exact .cut h7 (by rw [List.length_take, List.length_append]; omega)
    · have hp : (packs (l :: ls)).length = 1 + l.length + (packs ls).length := by
        show ((l.length : Int) :: (l ++ packs ls)).length = _
        rw [List.length_cons, List.length_append]
        omega
      obtain ⟨m, rfl⟩ : ∃ m, n = m + l.length + 1 := ⟨n - 1 - l.length, by omega⟩
      obtain ⟨k, hk, h1, h2, hu⟩ := unp_cut (ls := ls) (fun x hx => h x (List.mem_cons_of_mem _ hx)) (n := m) (by omega)
      have ek : ∀ j, (packs ((l :: ls).take (j + 1))).length = (packs (ls.take j)).length + l.length + 1 := fun j => by
        show ((l.length : Int) :: (l ++ packs (ls.take j))).length = _
        rw [List.length_cons, List.length_append]
        omega
      refine ⟨k + 1, by rw [List.length_cons]; omega, by rw [ek]; omega, fun hlt => ?_, ?_⟩
      · rw [ek]
        have := h2 (by rw [List.length_cons] at hlt; omega)
        omega
      · have et : (packs (l :: ls)).take (m + l.length + 1) = (l.length : Int) :: (l ++ (packs ls).take m) := by
          show (l.length : Int) :: (l ++ packs ls).take (m + l.length) = _
          rw [Nat.add_comm m, List.take_length_add_append]
        rw [et, ek, show ((l.length : Int) :: (l ++ (packs ls).take m)).drop ((packs (ls.take k)).length + l.length + 1) = ((packs ls).take m).drop (packs (ls.take k)).length by
          rw [List.drop_succ_cons, Nat.add_comm _ l.length, List.drop_length_add_append]]
        exact .cons h7 hu
theorem packs_mono {ls : List (List Int)} {i j : Nat} (h : i ≤ j) : (packs (ls.take i)).length ≤ (packs (ls.take j)).length := by
  obtain ⟨d, rfl⟩ := Nat.exists_eq_add_of_le h
  rw [List.take_add, packs_app, List.length_append]
  omega
/-- so many starts do not lie behind the place -/
theorem offs_count {ls : List (List Int)} {n k : Nat} (hk : k ≤ ls.length) (h1 : (packs (ls.take k)).length ≤ n) (h2 : k < ls.length → n < (packs (ls.take (k + 1))).length) :
    ((offs ls ls.length).filter fun x => decide (x ≤ (n : Int))).length = k + 1 := by
  unfold offs
  obtain ⟨d, hd⟩ := Nat.exists_eq_add_of_le hk
  rw [show ls.length + 1 = (k + 1) + d by omega, List.range_add, List.map_append, List.filter_append, List.length_append]
  rw [List.filter_eq_self.mpr fun x hx => ?_, List.filter_eq_nil_iff.mpr fun x hx => ?_, List.length_map, List.length_range]
  · rfl
  · obtain ⟨j, hj, rfl⟩ := List.mem_map.mp hx
    obtain ⟨i, hi, rfl⟩ := List.mem_map.mp hj
    have hi' := List.mem_range.mp hi
    have m := packs_mono (ls := ls) (show k + 1 ≤ k + 1 + i by omega)
    have := h2 (by omega)
    simp only [decide_eq_true_eq]
    omega
  · obtain ⟨j, hj, rfl⟩ := List.mem_map.mp hx
    have hj' := List.mem_range.mp hj
    have m := packs_mono (ls := ls) (show j ≤ k by omega)
    simp only [decide_eq_true_eq]
    omega
theorem offs_get {ls : List (List Int)} {k : Nat} (hk : k ≤ ls.length) : (offs ls ls.length)[k]? = some ((packs (ls.take k)).length : Int) := by
  unfold offs
  rw [List.getElem?_map, List.getElem?_range (by omega)]
  rfl
end
end K46
set_option Elab.async false
set_option linter.all false
set_option maxRecDepth 100000
set_option maxHeartbeats 4000000
namespace K46
open PySem PySem.Spec PyProof.Rows L2 Wk
local macro_rules | `(tactic| walk_at "u1") => `(tactic| fail "no more")
local macro_rules | `(tactic| walk_at "pos") => `(tactic| first | assumption | omega | decide | (simp only [Int.ofNat_eq_natCast] at *; omega))
local macro_rules | `(tactic| walk_at "sz") => `(tactic| first
  | (simp only [List.length_cons, List.length_nil]; decide)
  | exact Evl.sz_of (by omega)
  | exact Evl.sz_lt (by omega)
  | exact Evl.sz_of (by simp only [List.length_map, List.length_append, List.length_cons, List.length_nil, List.length_replicate]; omega)
  | exact Evl.sz_lt (by simp only [List.length_map, List.length_append, List.length_cons, List.length_nil, List.length_replicate]; omega))
local macro_rules | `(tactic| walk_at "cond") => `(tactic| first
  | exact Or.inr ⟨by decide, by decide⟩
  | (show (0 : Int) < _; first | decide | assumption | omega)
  | exact Or.inl ⟨by omega, by omega⟩
  | exact Or.inr ⟨by omega, by omega⟩
  | exact ⟨by decide, by decide, by decide⟩
  | exact log2_lt (by omega) (by omega)
  | exact ⟨by omega, by omega⟩)
local macro_rules | `(tactic| walk_at "ty") => `(tactic| first
  | exact ty_int | exact ty_bl | exact ty_str | exact ty_non
  | exact ty_L (by assumption) | exact ty_T (by assumption)
  | exact ty_L (SqL.of (by assumption)) | exact ty_T (SqT.of (by assumption)))
local macro_rules | `(tactic| walk_at "kit") => `(tactic| first
  | exact k_ii | exact k_ib | exact k_is | exact k_il | exact k_it
  | exact k_bb | exact k_bi | exact k_bs | exact k_bl | exact k_bt
  | exact k_ss | exact k_sb | exact k_si | exact k_sl | exact k_st
  | exact k_ll | exact k_lb | exact k_li | exact k_ls | exact k_lt
  | exact k_tt | exact k_tb | exact k_ti | exact k_ts | exact k_tl
  | exact k_nn | exact k_ni | exact k_ns | exact k_nl | exact k_nt)
local macro_rules | `(tactic| walk_at "s1") => `(tactic| first
  | with_reducible refine w_seq ?_
  | with_reducible refine w_set ?_
  | with_reducible refine w_op ?_
  | ((with_reducible refine' w_var ?h1 ?_); (case h1 => rfl))
  | with_reducible refine w_c ?_
  | with_reducible refine w_cb ?_
  | with_reducible refine w_cons ?_
  | with_reducible refine w_nil ?_
  | with_reducible refine w_I0 ?_
  | ((with_reducible refine' w_I ?c1 ?_); case c1 => walk_at "cond")
  | with_reducible refine w_ret ?_
  | with_reducible refine w_next ?_
  | with_reducible refine w_ifS ?_
  | with_reducible refine w_test ?_
  | with_reducible refine w_tB ?_
  | with_reducible refine w_k ?_
  | with_reducible refine w_eqI ?_
  | with_reducible refine w_neI ?_
  | with_reducible refine w_eqS ?_
  | with_reducible refine w_neS ?_
  | with_reducible refine w_and ?_
  | with_reducible refine w_or ?_
  | with_reducible refine w_not ?_
  | with_reducible refine w_andV ?_
  | with_reducible refine w_orV ?_
  | with_reducible refine w_notV ?_
  | with_reducible refine w_ifE ?_
  | with_reducible refine w_true ?_
  | with_reducible refine w_false ?_
  | with_reducible refine w_ntrue ?_
  | with_reducible refine w_nfalse ?_
  | with_reducible refine w_call ?_
  | with_reducible refine c_int ?_
  | with_reducible refine c_abs ?_
  | with_reducible refine c_max ?_
  | with_reducible refine c_min ?_
  | with_reducible refine w_drop ?_
  | with_reducible refine w_sfld ?_
  | with_reducible refine w_meth ?_
  | with_reducible refine w_make ?_
  | with_reducible refine w_prop ?_
  | with_reducible refine w_callK ?_
  | with_reducible refine w_callN ?_
  | with_reducible refine w_star ?_
  | with_reducible refine w_gcons ?_
  | with_reducible refine w_gname ?_
  | with_reducible refine w_gnil ?_
  | with_reducible refine w_retN ?_
  | with_reducible refine w_tup ?_
  | with_reducible refine w_lst ?_
  | with_reducible refine w_fld ?_
  | with_reducible refine w_bm ?_
  | with_reducible refine w_bm0 ?_
  | with_reducible refine w_forL ?_
  | with_reducible refine w_forT ?_
  | with_reducible refine w_forS ?_
  | with_reducible refine w_forR ?_
  | with_reducible refine w_lcR ?_
  | with_reducible refine w_lcL ?_
  | with_reducible refine w_lcT ?_
  | with_reducible refine w_isN ?_
  | with_reducible refine w_notN ?_
  | with_reducible refine w_asg ?_
  | with_reducible refine w_gsub ?_
  | ((with_reducible refine' w_aug ?h1 ?_); (case h1 => rfl))
  | with_reducible refine w_augS ?_
  | with_reducible refine w_ipI ?_
  | with_reducible refine w_un ?_
  | with_reducible refine w_U ?_
  | ((with_reducible refine' w_iteF ?f1 ?_); case f1 => (first | (intro h; cases h; done) | decide))
  | ((with_reducible refine' w_iteT ?f1 ?_); case f1 => rfl)
  | ((with_reducible refine' w_iteNF ?f1 ?_); case f1 => rfl)
  | ((with_reducible refine' w_iteNT ?f1 ?_); case f1 => (first | (intro h; cases h; done) | decide))
  | ((with_reducible refine' c_isi ?t1 ?k1 ?_); (case t1 => walk_at "ty"); (case k1 => walk_at "kit"))
  | ((with_reducible refine' w_eq ?e1 ?_); case e1 => rfl)
  | ((with_reducible refine' w_ne ?e1 ?_); case e1 => rfl)
  | walk_at "u1")
local macro_rules | `(tactic| walk_at "s") => `(tactic| repeat walk_at "s1")
local macro_rules | `(tactic| walk_at "mem") => `(tactic| first | with_reducible exact List.mem_cons_self .. | ((with_reducible refine' List.mem_cons_of_mem _ ?q); (case q => walk_at "mem")) | assumption | ((with_reducible refine' List.mem_append_right _ ?q); (case q => walk_at "mem")) | (exact List.mem_append_left _ (by assumption)))
local macro_rules | `(tactic| walk_at "pk") => `(tactic| first | with_reducible exact Pk.here | ((with_reducible refine' Pk.there ?q); (case q => walk_at "pk")) | ((with_reducible refine' Pk.app ?q); (case q => walk_at "pk")))
local macro_rules | `(tactic| walk_at "pkb") => `(tactic| first | with_reducible exact PkB.here | ((with_reducible refine' PkB.there ?q); (case q => walk_at "pkb")) | ((with_reducible refine' PkB.app ?q); (case q => walk_at "pkb")))
local macro_rules | `(tactic| walk_at "spl") => `(tactic| first | with_reducible exact Spl.nil | ((with_reducible refine' Spl.cons ?h ?t); (case h => walk_at "pk"); (case t => walk_at "spl")) | ((with_reducible refine' Spl.blk ?h ?t); (case h => walk_at "pkb"); (case t => walk_at "spl")))
local macro_rules | `(tactic| walk_at "sbx") => `(tactic| first | with_reducible exact Sb.refl | with_reducible exact Sb.nil | with_reducible exact Sb.left | ((with_reducible refine' Sb.cons ?h ?t); (case h => walk_at "pk"); (case t => walk_at "sbx")) | ((with_reducible refine' Sb.blk ?h ?t); (case h => walk_at "pkb"); (case t => walk_at "sbx")) | ((with_reducible refine' Sb.drop ?q); (case q => walk_at "sbx")) | ((with_reducible refine' Sb.right ?q); (case q => walk_at "sbx")))
local macro_rules | `(tactic| walk_at "hd") => `(tactic| first | assumption | exact Hd.sb (by assumption) (by walk_at "sbx"))
local macro_rules | `(tactic| walk_at "sq") => `(tactic| first
  | assumption
  | exact Hd.sqL (by assumption) (by walk_at "mem")
  | exact Hd.sqT (by assumption) (by walk_at "mem")
  | exact Hd.sqF (by assumption) (by walk_at "mem")
  | (refine .inl ?_; walk_at "sq")
  | (refine .inr ?_; walk_at "sq"))
local macro_rules | `(tactic| walk_at "at") => `(tactic| first | rfl | assumption | exact atI_nat (by assumption))
local macro_rules | `(tactic| walk_at "dn1") => `(tactic| first
  | exact Dn.int | exact Dn.str | exact Dn.non | exact Dn.bl | assumption
  | ((refine' Dn.tp ?a1 ?m1 ?l1 ?p1); (case a1 => assumption); (case m1 => walk_at "mem"); (case l1 => (simp only [List.length_cons, List.length_nil]; omega)); (case p1 => walk_at "dns"))
  | ((refine' Dn.lt ?a1 ?m1 ?l1 ?p1); (case a1 => assumption); (case m1 => walk_at "mem"); (case l1 => (simp only [List.length_cons, List.length_nil]; omega)); (case p1 => walk_at "dns")))
local macro_rules | `(tactic| walk_at "dns") => `(tactic| first | exact Paired.nil | exact Dn.ints | ((refine' Paired.cons ?a1 ?b1); (case a1 => walk_at "dn1"); (case b1 => walk_at "dns")))
local macro_rules | `(tactic| walk_at "g1") => `(tactic| first
  | ((with_reducible refine' g_ixI ?h1 ?h2 ?h3 ?_); (case h1 => assumption); (case h2 => walk_at "mem"); (case h3 => omega); intro z hz)
  | ((with_reducible refine' g_ixIT ?h1 ?h2 ?h3 ?_); (case h1 => assumption); (case h2 => walk_at "mem"); (case h3 => omega); intro z hz)
  | ((with_reducible refine' g_setI ?h1 ?h2 ?h3 ?_); (case h1 => assumption); (case h2 => walk_at "pk"); (case h3 => omega); intro H2 hh2)
  | ((with_reducible refine' w_ixL ?h1 ?h2 ?_); (case h1 => walk_at "sq"); (case h2 => walk_at "at"))
  | ((with_reducible refine' w_ixT ?h1 ?h2 ?_); (case h1 => walk_at "sq"); (case h2 => walk_at "at"))
  | ((with_reducible refine' w_ixAny ?h1 ?h2 ?_); (case h1 => walk_at "sq"); (case h2 => walk_at "at"))
  | ((with_reducible refine' c_lenA ?h1 ?_); (case h1 => walk_at "sq"))
  | ((with_reducible refine' c_isi ?t1 ?k1 ?_); (case t1 => first | exact ty_T (by walk_at "sq") | exact ty_L (by walk_at "sq")); (case k1 => walk_at "kit"))
  | ((with_reducible refine' g_lst ?h1 ?h2 ?_); (case h1 => assumption); (case h2 => walk_at "sz"); intro p H2 hh2)
  | ((with_reducible refine' g_tup ?h1 ?h2 ?_); (case h1 => assumption); (case h2 => walk_at "sz"); intro p H2 hh2)
  | ((with_reducible refine' g_dict ?h1 ?_); (case h1 => assumption); intro p H2 hh2)
  | ((with_reducible refine' g_listL ?h1 ?h2 ?_); (case h1 => assumption); (case h2 => walk_at "sq"); intro p H2 hh2)
  | ((with_reducible refine' g_listT ?h1 ?h2 ?_); (case h1 => assumption); (case h2 => walk_at "sq"); intro p H2 hh2)
  | ((with_reducible refine' g_tupL ?h1 ?h2 ?_); (case h1 => assumption); (case h2 => walk_at "sq"); intro p H2 hh2)
  | ((with_reducible refine' g_set ?h1 ?h2 ?h3 ?_); (case h1 => assumption); (case h2 => walk_at "pk"); (case h3 => first | rfl | assumption | exact Evl.ixN_nat (by first | omega | (simp only [List.length_cons, List.length_nil]; omega))); intro H2 hh2)
  | ((with_reducible refine' g_kbm ?h1 ?h2 ?_); (case h1 => assumption); (case h2 => walk_at "mem"))
  | ((with_reducible refine' g_kbm0 ?h1 ?h2 ?_); (case h1 => assumption); (case h2 => walk_at "mem"))
  | ((with_reducible refine' g_app ?h1 ?h2 ?h3 ?_); (case h1 => assumption); (case h2 => walk_at "pk"); (case h3 => walk_at "sz"); intro H2 hh2)
  | ((with_reducible refine' g_kapp ?h1 ?h2 ?h3 ?_); (case h1 => assumption); (case h2 => walk_at "pk"); (case h3 => walk_at "sz"); intro H2 hh2)
  | ((with_reducible refine' g_fld ?h1 ?h2 ?h3 ?h4 ?h5 ?_); (case h1 => assumption); (case h2 => walk_at "mem"); (case h3 => assumption); (case h4 => assumption); (case h5 => rfl))
  | ((with_reducible refine' g_sfld ?h1 ?h2 ?h3 ?h4 ?h5 ?_); (case h1 => assumption); (case h2 => walk_at "pk"); (case h3 => assumption); (case h4 => assumption); (case h5 => decide); intro H2 hh2)
  | ((with_reducible refine' g_meth ?h1 ?h2 ?h3 ?_); (case h1 => assumption); (case h2 => walk_at "mem"); (case h3 => rfl))
  | ((with_reducible refine' g_prop ?h1 ?h2 ?_); (case h1 => assumption); (case h2 => walk_at "mem"))
  | ((with_reducible refine' g_make ?h1 ?_); (case h1 => assumption); intro x H2 hh2)
  | ((with_reducible refine' g_cat ?h1 ?h2 ?h3 ?h4 ?_); (case h1 => assumption); (case h2 => walk_at "mem"); (case h3 => walk_at "mem"); (case h4 => walk_at "sz"); intro p H2 hh2)
  | ((with_reducible refine' g_inT ?h1 ?h2 ?h3 ?h4 ?h5 ?_); (case h1 => assumption); (case h2 => walk_at "mem"); (case h3 => rfl); (case h4 => rfl); (case h5 => rfl)))
local macro_rules | `(tactic| walk_at "gs") => `(tactic| repeat first | walk_at "s1" | walk_at "g1")
local macro_rules | `(tactic| walk_at "ite") => `(tactic| first
  | ((with_reducible refine' w_iteT ?h1 ?_); (case h1 => omega))
  | ((with_reducible refine' w_iteF ?h1 ?_); (case h1 => omega))
  | (with_reducible refine w_ite ?_ ?_ <;> intro hq)
  | ((with_reducible refine' w_iteNT ?h1 ?_); (case h1 => omega))
  | ((with_reducible refine' w_iteNF ?h1 ?_); (case h1 => omega))
  | (with_reducible refine w_iteN ?_ ?_ <;> intro hq))
local macro_rules | `(tactic| walk_at "go") => `(tactic| repeat' first | walk_at "s1" | walk_at "g1" | walk_at "ite")
local macro_rules | `(tactic| walk_at "g1") => `(tactic| first
  | ((with_reducible refine' g_take1 ?h1 ?h2 ?h3 ?h4 ?_); (case h1 => assumption); (case h2 => walk_at "spl"); (case h3 => omega); (case h4 => omega); intro k H2 hk1 hh2)
  | ((with_reducible refine' g_take ?h1 ?h2 ?h4 ?_); (case h1 => assumption); (case h2 => walk_at "spl"); (case h4 => omega); intro k H2 hk1 hh2)
  | ((with_reducible refine' g_betweenN ?h1 ?h2 ?h5 ?h3 ?h4 ?_); (case h1 => assumption); (case h2 => walk_at "spl"); (case h5 => omega); (case h3 => omega); (case h4 => omega); intro k H2 hk1 hk2 hh2)
  | ((with_reducible refine' g_between ?h1 ?h2 ?h3 ?h4 ?_); (case h1 => assumption); (case h2 => walk_at "spl"); (case h3 => omega); (case h4 => omega); intro k H2 hk1 hk2 hh2)
  | ((with_reducible refine' g_size ?h1 ?h2 ?h3 ?h4 ?_); (case h1 => assumption); (case h2 => walk_at "spl"); (case h3 => omega); (case h4 => omega); intro k H2 hk1 hh2)
  | ((with_reducible refine' g_word ?h1 ?h2 ?_); (case h1 => assumption); (case h2 => walk_at "spl"); intro k H2 hk1 hh2))
local macro_rules | `(tactic| walk_at "g1") => `(tactic| first | with_reducible refine w_sl ?_ | with_reducible refine w_part ?_ | with_reducible refine w_noPart ?_ | with_reducible refine w_exI ?_)
section
variable {P : Program} {w : World} {K : PySem.W.Frag} {mg : Str → Option Value} {base : Heap} {aREG aOPS : Addr}
theorem ls_b : ∀ {as : List Addr} {ls : List (List Int)}, as.length = ls.length → LsB K (Ls as ls) (as.map V.ref) ls
  | [], [], _ => fun _ _ => .nil
  | a :: as, l :: ls, h => fun H hz => by
    have hz' : Hd H (lstC a (l.map V.int) :: Ls as ls) := hz
    exact .cons ⟨a, rfl, hz'.lst (List.mem_cons_self ..)⟩ (ls_b (Nat.succ.inj h) H hz'.tail)
theorem paired_take {α β : Type} {F : α → β → Prop} : ∀ {xs : List α} {ys : List β} (n : Nat), Paired F xs ys → Paired F (xs.take n) (ys.take n)
  | _, _, 0, _ => .nil
  | _, _, _ + 1, .nil => .nil
  | _, _, n + 1, .cons r t => .cons r (paired_take n t)
theorem LsB.take {Z : List Cell} {xs : List V} {ls : List (List Int)} (h : LsB K Z xs ls) (n : Nat) : LsB K Z (xs.take n) (ls.take n) := fun H hz => paired_take n (h H hz)
theorem LsB.sb {Z Y : List Cell} {xs : List V} {ls : List (List Int)} (h : LsB K Z xs ls) (s : Sb Z Y) : LsB K Y xs ls := fun H hz => h H (hz.sb s)
theorem Ls.mid {a : Addr} {l : List Int} : ∀ {as bs : List Addr} {ls ms : List (List Int)}, as.length = ls.length → Ls (as ++ a :: bs) (ls ++ l :: ms) = Ls as ls ++ lstC a (l.map V.int) :: Ls bs ms
  | [], _, [], _, _ => rfl
  | b :: as, bs, m :: ls, ms, h => by
    show _ :: Ls (as ++ a :: bs) (ls ++ l :: ms) = _
    rw [Ls.mid (Nat.succ.inj h)]
    rfl
/-- the answer of unpack_letters as a datum -/
def ansD (ls : List (List Int)) (r : List Int) : PyData := .tuple [.list (ls.map fun l => PyData.list (l.map PyData.int)), .list (r.map PyData.int)]
theorem ans_dn {Z : List Cell} {H : Hp} {L : List Cell} {t p q : Addr} {xs : List V} {ls : List (List Int)} {r : List Int} (hb : LsB K Z xs ls) (h7 : ∀ l ∈ ls, l.length ≤ 9) (hl : ls.length ≤ 1000) (hr : r.length ≤ 1000) (hh : Hd H L) (hz : Hd H Z) (m1 : tupC t [.ref p, .ref q] ∈ L) (m2 : lstC p xs ∈ L) (m3 : lstC q (r.map V.int) ∈ L) : Dn K [] H 3 (.ref t) (ansD ls r) := by
  have key : ∀ {xs : List V} {ls : List (List Int)}, (∀ l ∈ ls, l.length ≤ 9) → Paired (fun v l => ∃ a, v = .ref a ∧ H a = some (.lst (l.map V.int))) xs ls → Paired (Dn K [] H 1) xs (ls.map fun l => PyData.list (l.map PyData.int)) := by
    intro xs ls h7 p
    induction p with
    | nil => exact .nil
    | cons r t ih =>
      obtain ⟨a, rfl, e⟩ := r
      exact .cons (Dn.lst (SqL.of e) (by simp) (by rw [List.length_map]; have := h7 _ (List.mem_cons_self ..); omega) Dn.ints) (ih fun x hx => h7 x (List.mem_cons_of_mem _ hx))
  have pr := hb H hz
  refine Dn.tp (n := 2) hh m1 (by simp) (.cons (Dn.lt (n := 1) hh m2 (by rw [pr.length]; omega) (key h7 pr)) (.cons (Dn.up (n := 1) (by omega) (Dn.lt (n := 0) hh m3 (by rw [List.length_map]; omega) Dn.ints)) .nil))
def sp_cutR (K : PySem.W.Frag) (tP : Addr) : Sp := fun vs H Q _ => ∃ (lp sp_ wp : Addr) (xs : List V) (ls : List (List Int)) (n : Nat) (Z R : List Cell), vs = [.ref lp, .ref sp_, .ref wp, .int n] ∧ ls.length ≤ 50 ∧ (∀ l ∈ ls, l.length ≤ 7 ∧ ∀ x ∈ l, (0 : Int) ≤ x ∧ x ≤ 65535) ∧ n ≤ (packs ls).length ∧ LsB K Z xs ls ∧ Hd H (lstC lp xs :: lstC sp_ ((offs ls ls.length).map V.int) :: lstC wp ((packs ls).map V.int) :: tblC tP :: (Z ++ R)) ∧
  ∀ H', Hd H' (lstC lp xs :: lstC sp_ ((offs ls ls.length).map V.int) :: lstC wp ((packs ls).map V.int) :: tblC tP :: (Z ++ R)) → Q (.bl true) H'
theorem c_cutR {tP : Addr} (T : Txt K mg aREG aOPS) (d : DefAt K mg "_law_cut_right" s__law_cut_right) (c__law_copy : C8.Cal P w K mg base 4 "_law_copy" (sp_copy K 4) []) (c__law_alike : C8.Cal P w K mg base 5 "_law_alike" (sp_alike K 5) [])
    (c__law_called : C8.Cal P w K mg base 8 "_law_called" (sp_called K tP) []) : C8.Cal P w K mg base 9 "_law_cut_right" (sp_cutR K tP) [] := by
  refine mk d sc__law_cut_right (fun _ _ _ _ _ _ us hl => match us, hl with | [_, _, _, _], _ => rfl) (fun vs H Q E h => ?_) (fun f cdv A outer s H vs Q E hr h => ?_)
  · obtain ⟨lp, sp_, wp, xs, ls, n, Z, R, rfl, _⟩ := h
    rfl
  · obtain ⟨lp, sp_, wp, xs, ls, n, Z, R, rfl, hl, hw, hn, hz, hh, q⟩ := h
    refine ⟨_, (pss_cons (ps_set (i := 4) sc__law_cut_right.nd rfl (Or.inl rfl) (pe_op op_sub (pe_callB Wk.b_len (by rfl) T.b_len (by decide +kernel) (pa_cons (pe_lc (own := [("x", 11)]) rfl sc__law_cut_right.nd (pi_list (pv 1)) (blkOk_by (own := [("x", 11)]) (N := nm__law_cut_right) (sc := defScope s__law_cut_right) (by decide +kernel)) (fun _ _ _ _ _ => (pg_name (i := 11) sc__law_cut_right.nd rfl (Or.inl rfl))) (fun _ _ _ _ _ => (pts_one (pt_cmpR op_le (pv 11) (pv 3) (nomark _)))) (fun _ _ _ _ _ => (pv 11))) pa_nil)) pe_int))
  (pss_cons (ps_set (i := 5) sc__law_cut_right.nd rfl (Or.inl rfl) (pe_tup (pa_cons pe_str (pa_cons (pe_tup (pa_cons (pe_slice sl_list (pv 0) po_none (po_some (pv 4))) (pa_cons (pe_slice sl_list (pv 2) (po_some (pe_ix ix_list (pv 1) (pv 4) (fun _ _ => rfl))) (po_some (pv 3))) pa_nil))) pa_nil))))
  (pss_cons (ps_set (i := 6) sc__law_cut_right.nd rfl (Or.inl rfl) (pe_lst pa_nil))
  (pss_cons (ps_for PassesOwn.never rfl (pi_range1 rfl T.b_range (pa_cons pe_int pa_nil)) (pg_name (i := 7) sc__law_cut_right.nd rfl (Or.inl rfl))
    (pss_cons (ps_set (i := 8) sc__law_cut_right.nd rfl (Or.inl rfl) (C8.pe_c c__law_copy hr (by first | decide | omega) rfl (pa_cons (pv 6) pa_nil)))
      (pss_cons (ps_set (i := 9) sc__law_cut_right.nd rfl (Or.inl rfl) (C8.pe_c c__law_called hr (by first | decide | omega) rfl (pa_cons pe_str (pa_cons (pe_slice sl_list (pv 2) po_none (po_some (pv 3))) (pa_cons (pv 7) pa_nil)))))
      (pss_cons (ps_if (PW.pt (pw_or (pt_not (pt_val (C8.pe_c c__law_alike hr (by first | decide | omega) rfl (pa_cons (pv 5) (pa_cons (pv 9) pa_nil))))) (pw_or1 (pt_not (pt_val (C8.pe_c c__law_alike hr (by first | decide | omega) rfl (pa_cons (pv 8) (pa_cons (pv 6) pa_nil))))))))
        (pss_one (ps_ret pe_bl))
        pss_nil)
      (pss_cons (ps_for PassesOwn.never rfl (pi_list (pe_ix ix_tup (pe_ix ix_tup (pv 9) pe_int (fun _ _ => rfl)) pe_int (fun _ _ => rfl))) (pg_name (i := 10) sc__law_cut_right.nd rfl (Or.inl rfl))
        (pss_one (ps_expr (pe_bm PySem.F.plainAttrs_list PySem.F.slot_list_append PySem.F.type_list_append mt_append (pv 10) (pa_cons (pv 7) pa_nil)))))
      (pss_cons (ps_expr (pe_bm PySem.F.plainAttrs_list PySem.F.slot_list_append PySem.F.type_list_append mt_append (pe_ix ix_tup (pe_ix ix_tup (pv 9) pe_int (fun _ _ => rfl)) pe_int (fun _ _ => rfl)) (pa_cons (pe_lst pa_nil) pa_nil)))
      (pss_cons (ps_expr (pe_bm PySem.F.plainAttrs_list PySem.F.slot_list_append PySem.F.type_list_append mt_append (pe_ix ix_tup (pe_ix ix_tup (pv 9) pe_int (fun _ _ => rfl)) pe_int (fun _ _ => rfl)) (pa_cons (pv 7) pa_nil)))
      (pss_one (ps_set (i := 6) sc__law_cut_right.nd rfl (Or.inl rfl) (pe_ix ix_tup (pv 9) pe_int (fun _ _ => rfl)))))))))))
  (pss_one (ps_ret pe_bl)))))), ?_⟩
    obtain ⟨k, hk, hk1, hk2, hu⟩ := unp_cut (fun l h => (hw l h).1) hn
    have ho := offs_count hk hk1 hk2
    walk_at "gs"
    refine g_lcLF hh (Hd.sqL hh (by walk_at "mem")) (fun i D H => Hd H (lstC D ((((offs ls ls.length).take i).filter fun x => decide (x ≤ (n : Int))).map V.int) :: lstC lp xs :: lstC sp_ ((offs ls ls.length).map V.int) :: lstC wp ((packs ls).map V.int) :: tblC tP :: (Z ++ R))) (fun D H1 h1 => h1) (fun i D H _ h => Hd.sqL h (by walk_at "mem")) ?_ ?_
    · intro i x D H1 hi h1
      have hlt := (List.getElem?_eq_some_iff.mp hi).1
      rw [List.length_map, offs_len] at hlt
      rw [List.getElem?_map, List.getElem?_eq_getElem (by rw [offs_len]; exact hlt)] at hi
      cases hi
      have e1 := take_succ' (List.getElem?_eq_getElem (l := offs ls ls.length) (i := i) (by rw [offs_len]; exact hlt))
      have e3 : ((((offs ls ls.length).take i).filter fun x => decide (x ≤ (n : Int))).map V.int).length ≤ 50 := by
        rw [List.length_map]
        have a1 := List.length_filter_le (fun x => decide (x ≤ (n : Int))) ((offs ls ls.length).take i)
        rw [List.length_take] at a1
        omega
      walk_at "gs"
      refine w_ite (fun hq => ?_) (fun hq => ?_)
      · walk_at "gs"
        rename_i H5 h5
        rw [e1, List.filter_append, List.filter_cons_of_pos (by simpa using hq), List.filter_nil, List.map_append]
        exact h5
      · rw [e1, List.filter_append, List.filter_cons_of_neg (by simpa using hq), List.filter_nil, List.append_nil]
        exact h1
    · intro D H1 h1
      rw [List.length_map, List.take_length] at h1
      walk_at "gs"
      rw [List.length_map, ho, show ((k + 1 : Nat) : Int) - 1 = (k : Int) from by omega]
      refine g_slHi h1 (Hd.sqL h1 (by walk_at "mem")) fun p1 H2 h2 => ?_
      walk_at "gs"
      refine g_ixI h2 (by walk_at "mem") (by rw [offs_len]; omega) fun z hz' => ?_
      rw [offs_get hk] at hz'
      cases hz'
      walk_at "gs"
      refine g_slMid h2 (Hd.sqL h2 (by walk_at "mem")) (by rw [List.length_map]; exact hn) hk1 fun p2 H3 h3 => ?_
      rw [← List.map_drop, ← List.map_take, ← List.drop_take] at h3
      generalize hr0 : List.drop (packs (List.take k ls)).length (List.take n (packs ls)) = r at hu h3
      have hrl : r.length ≤ 400 := by
        rw [← hr0, List.length_drop, List.length_take]
        have := packs_len (ls := ls) fun l h => (hw l h).1
        omega
      clear h1 h2
      walk_at "gs"
      rename_i t1 H4 h4 t2 H5 h5 ep H6 h6
      have lz : LsB K Z (xs.take k) (ls.take k) := hz.take k
      clear h3 h4 h5
      have hwk : ∀ l ∈ ls.take k, l.length ≤ 7 := fun l h => (hw l (List.mem_of_mem_take h)).1
      have hkl : (ls.take k).length ≤ 50 := by rw [List.length_take]; omega
      have hwn : ∀ x ∈ (packs ls).take n, (0 : Int) ≤ x ∧ x ≤ 65535 := fun x hx => packs_word hw x (List.mem_of_mem_take hx)
      have hpl := packs_len (ls := ls) fun l h => (hw l h).1
      refine l_range (m := 2) rfl (by decide) (fun j σ H => ∃ (ev : V) (de : PyData) (Ze : List Cell) (v7 v8 v9 v10 : Option V), σ = [some (.ref lp), some (.ref sp_), some (.ref wp), some (.int n), some (.int k), some (.ref t2), some ev, v7, v8, v9, v10, none] ∧ Zc K Ze 3 ev de ∧
        Hd H (tblC tP :: (Ze ++ (tupC t2 [V.str "answer", V.ref t1] :: tupC t1 [V.ref p1, V.ref p2] :: lstC p2 (r.map V.int) :: lstC p1 (xs.take k) :: lstC lp xs :: lstC sp_ ((offs ls ls.length).map V.int) :: lstC wp ((packs ls).map V.int) :: (Z ++ R)))))
        ⟨.ref ep, .list [], [lstC ep []], none, none, none, none, rfl, fun H hz => Dn.lt (n := 2) hz (List.mem_cons_self ..) (by simp) .nil, Hd.sb (A := tblC tP :: lstC ep [] :: tupC t2 [V.str "answer", V.ref t1] :: tupC t1 [V.ref p1, V.ref p2] :: lstC p2 (r.map V.int) :: lstC p1 (xs.take k) :: lstC lp xs :: lstC sp_ ((offs ls ls.length).map V.int) :: lstC wp ((packs ls).map V.int) :: (Z ++ R)) h6 (by walk_at "sbx")⟩ ?_ ?_
      · rintro j σ H7 hj ⟨ev, de, Ze, v7, v8, v9, v10, rfl, hze, h7⟩
        clear h6
        walk_at "gs"
        refine g_copyZ (k := 3) h7 (hze _ (Hd.sb h7 (by walk_at "sbx"))) fun kv Z2 H8 h8 hz2 => ?_
        walk_at "gs"
        refine g_slHi h8 (Hd.sqL h8 (by walk_at "mem")) fun p3 H9 h9 => ?_
        rw [← List.map_take] at h9
        walk_at "gs"
        refine .inl <| .inr ⟨p3, (packs ls).take n, ls.take k, r, j, lstC p3 (((packs ls).take n).map V.int) :: (Z2 ++ (Ze ++ (tupC t2 [V.str "answer", V.ref t1] :: tupC t1 [V.ref p1, V.ref p2] :: lstC p2 (r.map V.int) :: lstC p1 (xs.take k) :: lstC lp xs :: lstC sp_ ((offs ls ls.length).map V.int) :: lstC wp ((packs ls).map V.int) :: (Z ++ R)))), rfl, by omega, by rw [List.length_take]; omega, hwn, hu, fun H' hz' => hz'.sqL (List.mem_cons_self ..), Hd.sb h9 (by walk_at "sbx"), fun u t p q1 as H10 ha h10 => ?_⟩
        clear h7 h8 h9
        walk_at "gs"
        refine u_alike (n := 4) (d := .tuple [.str "answer", ansD (ls.take k) r]) (Dn.tp (n := 3) h10 (by walk_at "mem") (by simp) (.cons Dn.str (.cons (ans_dn lz (fun l h => Nat.le_trans (hwk l h) (by decide)) (by omega) (by omega) h10 (Hd.sb h10 (by walk_at "sbx")) (by walk_at "mem") (by walk_at "mem") (by walk_at "mem")) .nil)))
          (Dn.tp (n := 3) h10 (by walk_at "mem") (by simp) (.cons Dn.str (.cons (ans_dn (ls_b ha) (fun l h => Nat.le_trans (hwk l h) (by decide)) (by omega) (by omega) h10 (Hd.sb h10 (by walk_at "sbx")) (by walk_at "mem") (by walk_at "mem") (by walk_at "mem")) .nil))) ?_
        walk_at "gs"
        refine u_alike (n := 4) (d := de) (Dn.up (by omega) (hz2 _ (Hd.sb h10 (by walk_at "sbx")))) (Dn.up (by omega) (hze _ (Hd.sb h10 (by walk_at "sbx")))) ?_
        walk_at "gs"
        have h11 : Hd H10 (lstC p (as.map V.ref) :: (Ls [] ([] : List (List Int)) ++ (Ls as (ls.take k) ++ (tupC u [V.str "answer", V.ref t] :: tupC t [V.ref p, V.ref q1] :: lstC q1 (r.map V.int) :: tblC tP :: tupC t2 [V.str "answer", V.ref t1] :: tupC t1 [V.ref p1, V.ref p2] :: lstC p2 (r.map V.int) :: lstC p1 (xs.take k) :: lstC lp xs :: lstC sp_ ((offs ls ls.length).map V.int) :: lstC wp ((packs ls).map V.int) :: (Z ++ R))))) := Hd.sb (A := lstC p (as.map V.ref) :: (Ls as (ls.take k) ++ (tupC u [V.str "answer", V.ref t] :: tupC t [V.ref p, V.ref q1] :: lstC q1 (r.map V.int) :: tblC tP :: tupC t2 [V.str "answer", V.ref t1] :: tupC t1 [V.ref p1, V.ref p2] :: lstC p2 (r.map V.int) :: lstC p1 (xs.take k) :: lstC lp xs :: lstC sp_ ((offs ls ls.length).map V.int) :: lstC wp ((packs ls).map V.int) :: (Z ++ R)))) h10 (by walk_at "sbx")
        clear h10
        refine l_list (Hd.sqL h11 (by walk_at "mem")) (fun i σ H => ∃ (as1 as2 : List Addr) (ls1 ls2 : List (List Int)) (v10 : Option V), σ = [some (.ref lp), some (.ref sp_), some (.ref wp), some (.int n), some (.int k), some (.ref t2), some ev, some (.int j), some kv, some (.ref u), v10, none] ∧ as = as1 ++ as2 ∧ ls.take k = ls1 ++ ls2 ∧ as1.length = i ∧ ls1.length = i ∧
          Hd H (lstC p (as.map V.ref) :: (Ls as1 (ls1.map (· ++ [(j : Int)])) ++ (Ls as2 ls2 ++ (tupC u [V.str "answer", V.ref t] :: tupC t [V.ref p, V.ref q1] :: lstC q1 (r.map V.int) :: tblC tP :: tupC t2 [V.str "answer", V.ref t1] :: tupC t1 [V.ref p1, V.ref p2] :: lstC p2 (r.map V.int) :: lstC p1 (xs.take k) :: lstC lp xs :: lstC sp_ ((offs ls ls.length).map V.int) :: lstC wp ((packs ls).map V.int) :: (Z ++ R)))))) ⟨[], as, [], ls.take k, _, rfl, rfl, rfl, rfl, rfl, h11⟩ ?_ ?_ ?_
        · rintro i σ H _ ⟨_, _, _, _, _, _, _, _, _, _, h⟩
          exact Hd.sqL h (by walk_at "mem")
        · rintro i y σ H12 hy ⟨as1, as2, ls1, ls2, v10, rfl, ea, el, la, ll, h12⟩
          clear h11
          have hlt := (List.getElem?_eq_some_iff.mp hy).1
          rw [List.length_map] at hlt
          have l1 := congrArg List.length ea
          have l2 := congrArg List.length el
          rw [List.length_append] at l1 l2
          cases as2 with
          | nil => simp only [List.length_nil] at l1; omega
          | cons a as2 =>
            cases ls2 with
            | nil => simp only [List.length_nil] at l2; omega
            | cons l ls2 =>
              have ey : y = .ref a := by
                rw [ea, List.getElem?_map, List.getElem?_append_right (by omega), la, Nat.sub_self] at hy
                cases hy
                rfl
              subst ey
              have h13 : Hd H12 (lstC a (l.map V.int) :: lstC p (as.map V.ref) :: (Ls as1 (ls1.map (· ++ [(j : Int)])) ++ (Ls as2 ls2 ++ (tupC u [V.str "answer", V.ref t] :: tupC t [V.ref p, V.ref q1] :: lstC q1 (r.map V.int) :: tblC tP :: tupC t2 [V.str "answer", V.ref t1] :: tupC t1 [V.ref p1, V.ref p2] :: lstC p2 (r.map V.int) :: lstC p1 (xs.take k) :: lstC lp xs :: lstC sp_ ((offs ls ls.length).map V.int) :: lstC wp ((packs ls).map V.int) :: (Z ++ R))))) :=
                Hd.sb (show Hd H12 (lstC p (as.map V.ref) :: (Ls as1 (ls1.map (· ++ [(j : Int)])) ++ (lstC a (l.map V.int) :: (Ls as2 ls2 ++ _)))) from h12) (by walk_at "sbx")
              have hl7 := hwk l (by rw [el]; exact List.mem_append_right _ (List.mem_cons_self ..))
              clear h12
              walk_at "gs"
              rename_i H14 h14
              refine ⟨as1 ++ [a], as2, ls1 ++ [l], ls2, _, rfl, by rw [ea, List.append_assoc]; rfl, by rw [el, List.append_assoc]; rfl, by rw [List.length_append, la]; rfl, by rw [List.length_append, ll]; rfl, ?_⟩
              rw [List.map_append, show [l].map (· ++ [(j : Int)]) = [l ++ [(j : Int)]] from rfl, Ls.snoc (by rw [List.length_map]; omega), show (l ++ [(j : Int)]).map V.int = l.map V.int ++ [V.int (j : Int)] from by rw [List.map_append]; rfl, List.append_assoc, List.singleton_append]
              exact Hd.sb h14 (by walk_at "sbx")
        · rintro σ H12 ⟨as1, as2, ls1, ls2, v10, rfl, ea, el, la, ll, h12⟩
          clear h11
          rw [List.length_map] at la ll
          have l1 := congrArg List.length ea
          have l2 := congrArg List.length el
          rw [List.length_append] at l1 l2
          obtain rfl : as2 = [] := List.eq_nil_of_length_eq_zero (by omega)
          obtain rfl : ls2 = [] := List.eq_nil_of_length_eq_zero (by omega)
          rw [List.append_nil] at ea el
          subst ea
          have h13 : Hd H12 (lstC p (as.map V.ref) :: (Ls as (ls1.map (· ++ [(j : Int)])) ++ (tupC u [V.str "answer", V.ref t] :: tupC t [V.ref p, V.ref q1] :: lstC q1 (r.map V.int) :: tblC tP :: tupC t2 [V.str "answer", V.ref t1] :: tupC t1 [V.ref p1, V.ref p2] :: lstC p2 (r.map V.int) :: lstC p1 (xs.take k) :: lstC lp xs :: lstC sp_ ((offs ls ls.length).map V.int) :: lstC wp ((packs ls).map V.int) :: (Z ++ R)))) := h12
          clear h12
          walk_at "gs"
          rename_i p5 _ _ _ _ H16 h16
          have l8 : ∀ l ∈ ls1.map (· ++ [(j : Int)]) ++ [[]], l.length ≤ 9 := fun l h => by
            rcases List.mem_append.mp h with h | h
            · obtain ⟨l', h', rfl⟩ := List.mem_map.mp h
              have := hwk l' (by rw [el]; exact h')
              rw [List.length_append, List.length_singleton]
              omega
            · rw [List.mem_singleton.mp h]
              exact Nat.zero_le _
          have l50 : ls1.length ≤ 50 := by rw [← el]; exact hkl
          refine ⟨.ref t, ansD (ls1.map (· ++ [(j : Int)]) ++ [[]]) (r ++ [(j : Int)]), tupC t [V.ref p, V.ref q1] :: lstC p ((as ++ [p5]).map V.ref) :: lstC q1 ((r ++ [(j : Int)]).map V.int) :: Ls (as ++ [p5]) (ls1.map (· ++ [(j : Int)]) ++ [[]]), _, _, _, _, rfl, fun H hz => ?_, ?_⟩
          · exact ans_dn (ls_b (by rw [List.length_append, List.length_append, List.length_map]; show as.length + 1 = ls1.length + 1; omega)) l8 (by rw [List.length_append, List.length_map]; show ls1.length + 1 ≤ 1000; omega) (by rw [List.length_append]; show r.length + 1 ≤ 1000; omega) hz hz.tail.tail.tail (List.mem_cons_self ..) (List.mem_cons_of_mem _ (List.mem_cons_self ..)) (List.mem_cons_of_mem _ (List.mem_cons_of_mem _ (List.mem_cons_self ..)))
          · rw [Ls.snoc (by rw [List.length_map]; omega), List.map_append, List.map_append]
            simp only [List.cons_append, List.append_assoc, List.nil_append, List.map_nil, List.map_cons]
            exact Hd.sb h16 (by walk_at "sbx")
      · rintro σ H7 ⟨ev, de, Ze, v7, v8, v9, v10, rfl, hze, h7⟩
        walk_at "gs"
        exact q H7 (Hd.sb h7 (by walk_at "sbx"))
end
end K46
set_option Elab.async false
set_option linter.all false
set_option maxRecDepth 100000
set_option maxHeartbeats 4000000
namespace K46
open PySem PySem.Spec PyProof.Rows L2 Wk
local macro_rules | `(tactic| walk_at "u1") => `(tactic| fail "no more")
local macro_rules | `(tactic| walk_at "pos") => `(tactic| first | assumption | omega | decide | (simp only [Int.ofNat_eq_natCast] at *; omega))
local macro_rules | `(tactic| walk_at "sz") => `(tactic| first
  | (simp only [List.length_cons, List.length_nil]; decide)
  | exact Evl.sz_of (by omega)
  | exact Evl.sz_lt (by omega)
  | exact Evl.sz_of (by simp only [List.length_map, List.length_append, List.length_cons, List.length_nil, List.length_replicate]; omega)
  | exact Evl.sz_lt (by simp only [List.length_map, List.length_append, List.length_cons, List.length_nil, List.length_replicate]; omega))
local macro_rules | `(tactic| walk_at "cond") => `(tactic| first
  | exact Or.inr ⟨by decide, by decide⟩
  | (show (0 : Int) < _; first | decide | assumption | omega)
  | exact Or.inl ⟨by omega, by omega⟩
  | exact Or.inr ⟨by omega, by omega⟩
  | exact ⟨by decide, by decide, by decide⟩
  | exact log2_lt (by omega) (by omega)
  | exact ⟨by omega, by omega⟩)
local macro_rules | `(tactic| walk_at "ty") => `(tactic| first
  | exact ty_int | exact ty_bl | exact ty_str | exact ty_non
  | exact ty_L (by assumption) | exact ty_T (by assumption)
  | exact ty_L (SqL.of (by assumption)) | exact ty_T (SqT.of (by assumption)))
local macro_rules | `(tactic| walk_at "kit") => `(tactic| first
  | exact k_ii | exact k_ib | exact k_is | exact k_il | exact k_it
  | exact k_bb | exact k_bi | exact k_bs | exact k_bl | exact k_bt
  | exact k_ss | exact k_sb | exact k_si | exact k_sl | exact k_st
  | exact k_ll | exact k_lb | exact k_li | exact k_ls | exact k_lt
  | exact k_tt | exact k_tb | exact k_ti | exact k_ts | exact k_tl
  | exact k_nn | exact k_ni | exact k_ns | exact k_nl | exact k_nt)
local macro_rules | `(tactic| walk_at "s1") => `(tactic| first
  | with_reducible refine w_seq ?_
  | with_reducible refine w_set ?_
  | with_reducible refine w_op ?_
  | ((with_reducible refine' w_var ?h1 ?_); (case h1 => rfl))
  | with_reducible refine w_c ?_
  | with_reducible refine w_cb ?_
  | with_reducible refine w_cons ?_
  | with_reducible refine w_nil ?_
  | with_reducible refine w_I0 ?_
  | ((with_reducible refine' w_I ?c1 ?_); case c1 => walk_at "cond")
  | with_reducible refine w_ret ?_
  | with_reducible refine w_next ?_
  | with_reducible refine w_ifS ?_
  | with_reducible refine w_test ?_
  | with_reducible refine w_tB ?_
  | with_reducible refine w_k ?_
  | with_reducible refine w_eqI ?_
  | with_reducible refine w_neI ?_
  | with_reducible refine w_eqS ?_
  | with_reducible refine w_neS ?_
  | with_reducible refine w_and ?_
  | with_reducible refine w_or ?_
  | with_reducible refine w_not ?_
  | with_reducible refine w_andV ?_
  | with_reducible refine w_orV ?_
  | with_reducible refine w_notV ?_
  | with_reducible refine w_ifE ?_
  | with_reducible refine w_true ?_
  | with_reducible refine w_false ?_
  | with_reducible refine w_ntrue ?_
  | with_reducible refine w_nfalse ?_
  | with_reducible refine w_call ?_
  | with_reducible refine c_int ?_
  | with_reducible refine c_abs ?_
  | with_reducible refine c_max ?_
  | with_reducible refine c_min ?_
  | with_reducible refine w_drop ?_
  | with_reducible refine w_sfld ?_
  | with_reducible refine w_meth ?_
  | with_reducible refine w_make ?_
  | with_reducible refine w_prop ?_
  | with_reducible refine w_callK ?_
  | with_reducible refine w_callN ?_
  | with_reducible refine w_star ?_
  | with_reducible refine w_gcons ?_
  | with_reducible refine w_gname ?_
  | with_reducible refine w_gnil ?_
  | with_reducible refine w_retN ?_
  | with_reducible refine w_tup ?_
  | with_reducible refine w_lst ?_
  | with_reducible refine w_fld ?_
  | with_reducible refine w_bm ?_
  | with_reducible refine w_bm0 ?_
  | with_reducible refine w_forL ?_
  | with_reducible refine w_forT ?_
  | with_reducible refine w_forS ?_
  | with_reducible refine w_forR ?_
  | with_reducible refine w_lcR ?_
  | with_reducible refine w_lcL ?_
  | with_reducible refine w_lcT ?_
  | with_reducible refine w_isN ?_
  | with_reducible refine w_notN ?_
  | with_reducible refine w_asg ?_
  | with_reducible refine w_gsub ?_
  | ((with_reducible refine' w_aug ?h1 ?_); (case h1 => rfl))
  | with_reducible refine w_augS ?_
  | with_reducible refine w_ipI ?_
  | with_reducible refine w_un ?_
  | with_reducible refine w_U ?_
  | ((with_reducible refine' w_iteF ?f1 ?_); case f1 => (first | (intro h; cases h; done) | decide))
  | ((with_reducible refine' w_iteT ?f1 ?_); case f1 => rfl)
  | ((with_reducible refine' w_iteNF ?f1 ?_); case f1 => rfl)
  | ((with_reducible refine' w_iteNT ?f1 ?_); case f1 => (first | (intro h; cases h; done) | decide))
  | ((with_reducible refine' c_isi ?t1 ?k1 ?_); (case t1 => walk_at "ty"); (case k1 => walk_at "kit"))
  | ((with_reducible refine' w_eq ?e1 ?_); case e1 => rfl)
  | ((with_reducible refine' w_ne ?e1 ?_); case e1 => rfl)
  | walk_at "u1")
local macro_rules | `(tactic| walk_at "s") => `(tactic| repeat walk_at "s1")
local macro_rules | `(tactic| walk_at "mem") => `(tactic| first | with_reducible exact List.mem_cons_self .. | ((with_reducible refine' List.mem_cons_of_mem _ ?q); (case q => walk_at "mem")) | assumption | ((with_reducible refine' List.mem_append_right _ ?q); (case q => walk_at "mem")) | (exact List.mem_append_left _ (by assumption)))
local macro_rules | `(tactic| walk_at "pk") => `(tactic| first | with_reducible exact Pk.here | ((with_reducible refine' Pk.there ?q); (case q => walk_at "pk")) | ((with_reducible refine' Pk.app ?q); (case q => walk_at "pk")))
local macro_rules | `(tactic| walk_at "pkb") => `(tactic| first | with_reducible exact PkB.here | ((with_reducible refine' PkB.there ?q); (case q => walk_at "pkb")) | ((with_reducible refine' PkB.app ?q); (case q => walk_at "pkb")))
local macro_rules | `(tactic| walk_at "spl") => `(tactic| first | with_reducible exact Spl.nil | ((with_reducible refine' Spl.cons ?h ?t); (case h => walk_at "pk"); (case t => walk_at "spl")) | ((with_reducible refine' Spl.blk ?h ?t); (case h => walk_at "pkb"); (case t => walk_at "spl")))
local macro_rules | `(tactic| walk_at "sbx") => `(tactic| first | with_reducible exact Sb.refl | with_reducible exact Sb.nil | with_reducible exact Sb.left | ((with_reducible refine' Sb.cons ?h ?t); (case h => walk_at "pk"); (case t => walk_at "sbx")) | ((with_reducible refine' Sb.blk ?h ?t); (case h => walk_at "pkb"); (case t => walk_at "sbx")) | ((with_reducible refine' Sb.drop ?q); (case q => walk_at "sbx")) | ((with_reducible refine' Sb.right ?q); (case q => walk_at "sbx")))
local macro_rules | `(tactic| walk_at "hd") => `(tactic| first | assumption | exact Hd.sb (by assumption) (by walk_at "sbx"))
local macro_rules | `(tactic| walk_at "sq") => `(tactic| first
  | assumption
  | exact Hd.sqL (by assumption) (by walk_at "mem")
  | exact Hd.sqT (by assumption) (by walk_at "mem")
  | exact Hd.sqF (by assumption) (by walk_at "mem")
  | (refine .inl ?_; walk_at "sq")
  | (refine .inr ?_; walk_at "sq"))
local macro_rules | `(tactic| walk_at "at") => `(tactic| first | rfl | assumption | exact atI_nat (by assumption))
local macro_rules | `(tactic| walk_at "dn1") => `(tactic| first
  | exact Dn.int | exact Dn.str | exact Dn.non | exact Dn.bl | assumption
  | ((refine' Dn.tp ?a1 ?m1 ?l1 ?p1); (case a1 => assumption); (case m1 => walk_at "mem"); (case l1 => (simp only [List.length_cons, List.length_nil]; omega)); (case p1 => walk_at "dns"))
  | ((refine' Dn.lt ?a1 ?m1 ?l1 ?p1); (case a1 => assumption); (case m1 => walk_at "mem"); (case l1 => (simp only [List.length_cons, List.length_nil]; omega)); (case p1 => walk_at "dns")))
local macro_rules | `(tactic| walk_at "dns") => `(tactic| first | exact Paired.nil | exact Dn.ints | ((refine' Paired.cons ?a1 ?b1); (case a1 => walk_at "dn1"); (case b1 => walk_at "dns")))
local macro_rules | `(tactic| walk_at "g1") => `(tactic| first
  | ((with_reducible refine' g_ixI ?h1 ?h2 ?h3 ?_); (case h1 => assumption); (case h2 => walk_at "mem"); (case h3 => omega); intro z hz)
  | ((with_reducible refine' g_ixIT ?h1 ?h2 ?h3 ?_); (case h1 => assumption); (case h2 => walk_at "mem"); (case h3 => omega); intro z hz)
  | ((with_reducible refine' g_setI ?h1 ?h2 ?h3 ?_); (case h1 => assumption); (case h2 => walk_at "pk"); (case h3 => omega); intro H2 hh2)
  | ((with_reducible refine' w_ixL ?h1 ?h2 ?_); (case h1 => walk_at "sq"); (case h2 => walk_at "at"))
  | ((with_reducible refine' w_ixT ?h1 ?h2 ?_); (case h1 => walk_at "sq"); (case h2 => walk_at "at"))
  | ((with_reducible refine' w_ixAny ?h1 ?h2 ?_); (case h1 => walk_at "sq"); (case h2 => walk_at "at"))
  | ((with_reducible refine' c_lenA ?h1 ?_); (case h1 => walk_at "sq"))
  | ((with_reducible refine' c_isi ?t1 ?k1 ?_); (case t1 => first | exact ty_T (by walk_at "sq") | exact ty_L (by walk_at "sq")); (case k1 => walk_at "kit"))
  | ((with_reducible refine' g_lst ?h1 ?h2 ?_); (case h1 => assumption); (case h2 => walk_at "sz"); intro p H2 hh2)
  | ((with_reducible refine' g_tup ?h1 ?h2 ?_); (case h1 => assumption); (case h2 => walk_at "sz"); intro p H2 hh2)
  | ((with_reducible refine' g_dict ?h1 ?_); (case h1 => assumption); intro p H2 hh2)
  | ((with_reducible refine' g_listL ?h1 ?h2 ?_); (case h1 => assumption); (case h2 => walk_at "sq"); intro p H2 hh2)
  | ((with_reducible refine' g_listT ?h1 ?h2 ?_); (case h1 => assumption); (case h2 => walk_at "sq"); intro p H2 hh2)
  | ((with_reducible refine' g_tupL ?h1 ?h2 ?_); (case h1 => assumption); (case h2 => walk_at "sq"); intro p H2 hh2)
  | ((with_reducible refine' g_set ?h1 ?h2 ?h3 ?_); (case h1 => assumption); (case h2 => walk_at "pk"); (case h3 => first | rfl | assumption | exact Evl.ixN_nat (by first | omega | (simp only [List.length_cons, List.length_nil]; omega))); intro H2 hh2)
  | ((with_reducible refine' g_kbm ?h1 ?h2 ?_); (case h1 => assumption); (case h2 => walk_at "mem"))
  | ((with_reducible refine' g_kbm0 ?h1 ?h2 ?_); (case h1 => assumption); (case h2 => walk_at "mem"))
  | ((with_reducible refine' g_app ?h1 ?h2 ?h3 ?_); (case h1 => assumption); (case h2 => walk_at "pk"); (case h3 => walk_at "sz"); intro H2 hh2)
  | ((with_reducible refine' g_kapp ?h1 ?h2 ?h3 ?_); (case h1 => assumption); (case h2 => walk_at "pk"); (case h3 => walk_at "sz"); intro H2 hh2)
  | ((with_reducible refine' g_fld ?h1 ?h2 ?h3 ?h4 ?h5 ?_); (case h1 => assumption); (case h2 => walk_at "mem"); (case h3 => assumption); (case h4 => assumption); (case h5 => rfl))
  | ((with_reducible refine' g_sfld ?h1 ?h2 ?h3 ?h4 ?h5 ?_); (case h1 => assumption); (case h2 => walk_at "pk"); (case h3 => assumption); (case h4 => assumption); (case h5 => decide); intro H2 hh2)
  | ((with_reducible refine' g_meth ?h1 ?h2 ?h3 ?_); (case h1 => assumption); (case h2 => walk_at "mem"); (case h3 => rfl))
  | ((with_reducible refine' g_prop ?h1 ?h2 ?_); (case h1 => assumption); (case h2 => walk_at "mem"))
  | ((with_reducible refine' g_make ?h1 ?_); (case h1 => assumption); intro x H2 hh2)
  | ((with_reducible refine' g_cat ?h1 ?h2 ?h3 ?h4 ?_); (case h1 => assumption); (case h2 => walk_at "mem"); (case h3 => walk_at "mem"); (case h4 => walk_at "sz"); intro p H2 hh2)
  | ((with_reducible refine' g_inT ?h1 ?h2 ?h3 ?h4 ?h5 ?_); (case h1 => assumption); (case h2 => walk_at "mem"); (case h3 => rfl); (case h4 => rfl); (case h5 => rfl)))
local macro_rules | `(tactic| walk_at "gs") => `(tactic| repeat first | walk_at "s1" | walk_at "g1")
local macro_rules | `(tactic| walk_at "ite") => `(tactic| first
  | ((with_reducible refine' w_iteT ?h1 ?_); (case h1 => omega))
  | ((with_reducible refine' w_iteF ?h1 ?_); (case h1 => omega))
  | (with_reducible refine w_ite ?_ ?_ <;> intro hq)
  | ((with_reducible refine' w_iteNT ?h1 ?_); (case h1 => omega))
  | ((with_reducible refine' w_iteNF ?h1 ?_); (case h1 => omega))
  | (with_reducible refine w_iteN ?_ ?_ <;> intro hq))
local macro_rules | `(tactic| walk_at "go") => `(tactic| repeat' first | walk_at "s1" | walk_at "g1" | walk_at "ite")
local macro_rules | `(tactic| walk_at "g1") => `(tactic| first
  | ((with_reducible refine' g_take1 ?h1 ?h2 ?h3 ?h4 ?_); (case h1 => assumption); (case h2 => walk_at "spl"); (case h3 => omega); (case h4 => omega); intro k H2 hk1 hh2)
  | ((with_reducible refine' g_take ?h1 ?h2 ?h4 ?_); (case h1 => assumption); (case h2 => walk_at "spl"); (case h4 => omega); intro k H2 hk1 hh2)
  | ((with_reducible refine' g_betweenN ?h1 ?h2 ?h5 ?h3 ?h4 ?_); (case h1 => assumption); (case h2 => walk_at "spl"); (case h5 => omega); (case h3 => omega); (case h4 => omega); intro k H2 hk1 hk2 hh2)
  | ((with_reducible refine' g_between ?h1 ?h2 ?h3 ?h4 ?_); (case h1 => assumption); (case h2 => walk_at "spl"); (case h3 => omega); (case h4 => omega); intro k H2 hk1 hk2 hh2)
  | ((with_reducible refine' g_size ?h1 ?h2 ?h3 ?h4 ?_); (case h1 => assumption); (case h2 => walk_at "spl"); (case h3 => omega); (case h4 => omega); intro k H2 hk1 hh2)
  | ((with_reducible refine' g_word ?h1 ?h2 ?_); (case h1 => assumption); (case h2 => walk_at "spl"); intro k H2 hk1 hh2))
local macro_rules | `(tactic| walk_at "g1") => `(tactic| first | with_reducible refine w_sl ?_ | with_reducible refine w_part ?_ | with_reducible refine w_noPart ?_ | with_reducible refine w_exI ?_)
section
variable {P : Program} {w : World} {K : PySem.W.Frag} {mg : Str → Option Value} {base : Heap} {aREG aOPS : Addr}
theorem spo_app {n : Nat} {rest : List Int} (hn : 7 < n) : ∀ {ls : List (List Int)}, (∀ l ∈ ls, l.length ≤ 7) → Spo (packs ls ++ ((n : Int) :: rest))
  | [], _ => .here hn
  | l :: ls, h => by
    show Spo ((l.length : Int) :: (l ++ packs ls ++ ((n : Int) :: rest)))
    rw [List.append_assoc]
    exact .next (h l (List.mem_cons_self ..)) (spo_app hn fun x hx => h x (List.mem_cons_of_mem _ hx))
/-- spoilt words -/
def SpoV (K : PySem.W.Frag) (Z : List Cell) (v : V) : Prop := (∃ d, BadD 400 d ∧ Zc K Z 2 v d) ∨ ∃ (a : Addr) (ws : List Int), v = .ref a ∧ ws.length ≤ 400 ∧ (∀ x ∈ ws, (0 : Int) ≤ x ∧ x ≤ 65535) ∧ Spo ws ∧ ∀ H, Hd H Z → SqL K H a (ws.map V.int)
theorem spoV_long {p : Addr} {ws : List Int} (h : 400 < ws.length) (h2 : ws.length ≤ 1000) : SpoV K [lstC p (ws.map V.int)] (.ref p) :=
  .inl ⟨.list (ws.map PyData.int), .inl (by rw [List.length_map]; exact h), fun H hz => Dn.lt (n := 1) hz (List.mem_cons_self ..) (by rw [List.length_map]; omega) Dn.ints⟩
def sp_spoilt (K : PySem.W.Frag) : Sp := fun vs H Q _ => ∃ (st c sp_ wp : Addr) (ls : List (List Int)) (R : List Cell), vs = [.ref st, .ref sp_, .ref wp] ∧ ls.length ≤ 50 ∧ (∀ l ∈ ls, l.length ≤ 7 ∧ ∀ x ∈ l, (0 : Int) ≤ x ∧ x ≤ 65535) ∧ Hd H (stoC st c :: scrC c :: lstC sp_ ((offs ls ls.length).map V.int) :: lstC wp ((packs ls).map V.int) :: R) ∧
  ∀ (v : V) (Z : List Cell) H', SpoV K Z v → Hd H' (stoC st c :: scrC c :: (Z ++ (lstC sp_ ((offs ls ls.length).map V.int) :: lstC wp ((packs ls).map V.int) :: R))) → Q v H'
theorem c_spoilt (T : Txt K mg aREG aOPS) (d : DefAt K mg "_law_spoilt" s__law_spoilt) (c__law_take : C8.Cal P w K mg base 2 "_law_take" sp_take []) (c__law_pick : C8.Cal P w K mg base 3 "_law_pick" (sp_pick K) []) (c__law_wrong_words : C8.Cal P w K mg base 5 "_law_wrong_words" (sp_wrongW K) []) : C8.Cal P w K mg base 6 "_law_spoilt" (sp_spoilt K) [] := by
  refine mk d sc__law_spoilt (fun _ _ _ _ _ _ us hl => match us, hl with | [_, _, _], _ => rfl) (fun vs H Q E h => ?_) (fun f cdv A outer s H vs Q E hr h => ?_)
  · obtain ⟨st, c, sp_, wp, ls, R, rfl, _⟩ := h
    rfl
  · obtain ⟨st, c, sp_, wp, ls, R, rfl, hl, hw, hh, q⟩ := h
    refine ⟨_, (pss_cons (ps_set (i := 3) sc__law_spoilt.nd rfl (Or.inl rfl) (C8.pe_c c__law_take hr (by first | decide | omega) rfl (pa_cons (pv 0) (pa_cons pe_int pa_nil))))
  (pss_cons (ps_if (pt_cmpR op_eq (pv 3) pe_int (nomark _))
    (pss_one (ps_ret (pe_op op_cat (pv 2) (pe_op op_rep (pe_lst (pa_cons pe_int pa_nil)) (pe_op op_sub pe_int (pe_callB Wk.b_len (by rfl) T.b_len (by decide +kernel) (pa_cons (pv 2) pa_nil)))))))
    pss_nil)
  (pss_cons (ps_if (pt_cmpR op_eq (pv 3) pe_int (nomark _))
    (pss_one (ps_ret (C8.pe_c c__law_wrong_words hr (by first | decide | omega) rfl (pa_cons (pv 0) (pa_cons (pv 2) (pa_cons pe_int (pa_cons pe_bl pa_nil)))))))
    pss_nil)
  (pss_cons (ps_set (i := 4) sc__law_spoilt.nd rfl (Or.inl rfl) (C8.pe_c c__law_pick hr (by first | decide | omega) rfl (pa_cons (pv 0) (pa_cons (pv 1) pa_nil))))
  (pss_cons (ps_set (i := 5) sc__law_spoilt.nd rfl (Or.inl rfl) (C8.pe_c c__law_pick hr (by first | decide | omega) rfl (pa_cons (pv 0) (pa_cons (pe_lst (pa_cons pe_int (pa_cons pe_int (pa_cons pe_int (pa_cons pe_int (pa_cons pe_int (pa_cons pe_int (pa_cons pe_int (pa_cons pe_int (pa_cons (pe_op op_add pe_int (C8.pe_c c__law_take hr (by first | decide | omega) rfl (pa_cons (pv 0) (pa_cons pe_int pa_nil)))) pa_nil)))))))))) pa_nil))))
  (pss_one (ps_ret (pe_op op_cat (pe_op op_cat (pe_slice sl_list (pv 2) po_none (po_some (pv 4))) (pe_lst (pa_cons (pv 5) pa_nil))) (pe_slice sl_list (pv 2) (po_some (pe_op op_add (pv 4) pe_int)) po_none))))))))), ?_⟩
    have hpl := packs_len (ls := ls) fun l h => (hw l h).1
    have hpw := packs_word hw
    walk_at "gs"
    refine w_ite (fun e => ?_) (fun e => ?_)
    · walk_at "gs"
      rename_i p H3 h3
      have ek : ((401 : Int) - ((packs ls).map V.int).length).toNat = 401 - (packs ls).length := by rw [List.length_map]; omega
      refine g_rep h3 (by walk_at "mem") (by rw [List.length_map]; omega) (by rw [List.length_map]; omega) (by rw [ek]; exact Nat.le_trans (show 1 * (401 - (packs ls).length) ≤ 401 by omega) (by decide)) fun p2 H4 h4 => ?_
      rw [ek, rep_ints] at h4
      refine g_cat h4 (by walk_at "mem") (by walk_at "mem") (by rw [List.length_map, List.length_map, List.length_replicate]; exact Nat.le_trans (show (packs ls).length + (401 - (packs ls).length) ≤ 401 by omega) (by decide)) fun p3 H5 h5 => ?_
      rw [← List.map_append] at h5
      exact q _ _ H5 (spoV_long (by rw [List.length_append, List.length_replicate]; omega) (by rw [List.length_append, List.length_replicate]; omega)) (Hd.sb (A := stoC st c :: scrC c :: lstC p3 ((packs ls ++ List.replicate (401 - (packs ls).length) (0 : Int)).map V.int) :: (lstC sp_ ((offs ls ls.length).map V.int) :: lstC wp ((packs ls).map V.int) :: R)) h5 (by walk_at "sbx"))
    · walk_at "gs"
      refine w_ite (fun e2 => ?_) (fun e2 => ?_)
      · walk_at "gs"
        refine g_wrongW (mx := 400) (by assumption) (by walk_at "spl") (by omega) (by omega) hpw fun v d Z H3 hb hz h3 => ?_
        exact q v Z H3 (.inl ⟨d, hb, hz⟩) (Hd.sb h3 (by walk_at "sbx"))
      · walk_at "gs"
        rename_i k0 H2 hk0 h2
        refine g_pick h2 (by walk_at "spl") (by walk_at "mem") (by rw [List.length_map, offs_len]; omega) (by rw [List.length_map, offs_len]; omega) fun v H3 hv h3 => ?_
        obtain ⟨x, hx, rfl⟩ := List.mem_map.mp hv
        obtain ⟨j, hj, rfl⟩ := List.mem_map.mp hx
        have hj' : j ≤ ls.length := by have := List.mem_range.mp hj; omega
        clear h2
        walk_at "gs"
        rename_i k1 H4 hk1 h4 pl H5 h5
        refine g_pick h5 (by walk_at "spl") (by walk_at "mem") (by simp) (by simp) fun v H6 hv6 h6 => ?_
        obtain ⟨m, rfl, hm7, hm⟩ : ∃ m : Nat, v = .int (m : Int) ∧ 7 < m ∧ m ≤ 65535 := by
          simp only [List.mem_cons, List.not_mem_nil, or_false] at hv6
          rcases hv6 with rfl | rfl | rfl | rfl | rfl | rfl | rfl | rfl | rfl
          · exact ⟨8, rfl, by omega, by omega⟩
          · exact ⟨9, rfl, by omega, by omega⟩
          · exact ⟨15, rfl, by omega, by omega⟩
          · exact ⟨16, rfl, by omega, by omega⟩
          · exact ⟨255, rfl, by omega, by omega⟩
          · exact ⟨256, rfl, by omega, by omega⟩
          · exact ⟨65528, rfl, by omega, by omega⟩
          · exact ⟨65535, rfl, by omega, by omega⟩
          · exact ⟨8 + k1, congrArg V.int (by omega), by omega, by omega⟩
        clear h3 h4 h5
        have e0 : packs ls = packs (ls.take j) ++ packs (ls.drop j) := by rw [← packs_app, List.take_append_drop]
        have el0 := congrArg List.length e0
        rw [List.length_append] at el0
        have haw : ∀ x ∈ packs (ls.take j), (0 : Int) ≤ x ∧ x ≤ 65535 := packs_word fun l hl => hw l (List.mem_of_mem_take hl)
        have hsp : Spo (packs (ls.take j) ++ ((m : Int) :: (packs ls).drop ((packs (ls.take j)).length + 1))) := spo_app hm7 fun l hl => (hw l (List.mem_of_mem_take hl)).1
        have et : (packs ls).take (packs (ls.take j)).length = packs (ls.take j) := by
          conv => lhs; rw [e0]
          exact List.take_left
        generalize packs (ls.take j) = a at *
        walk_at "gs"
        refine g_slHi h6 (Hd.sqL h6 (by walk_at "mem")) fun p1 H7 h7 => ?_
        rw [← List.map_take, et] at h7
        clear h6
        walk_at "gs"
        rename_i p2 H8 h8 p3 H9 h9
        rw [show a.map V.int ++ [V.int (m : Int)] = (a ++ [(m : Int)]).map V.int from by rw [List.map_append]; rfl] at h9
        clear h7 h8
        rw [show ((a.length : Int) + 1) = ((a.length + 1 : Nat) : Int) from by omega]
        refine g_slLo h9 (Hd.sqL h9 (by walk_at "mem")) fun p4 H10 h10 => ?_
        rw [← List.map_drop] at h10
        walk_at "gs"
        refine g_cat h10 (by walk_at "mem") (by walk_at "mem") (by rw [List.length_map, List.length_map, List.length_append, List.length_singleton, List.length_drop]; exact Nat.le_trans (show a.length + 1 + ((packs ls).length - (a.length + 1)) ≤ 401 by omega) (by decide)) fun p5 H11 h11 => ?_
        rw [← List.map_append, List.append_assoc, List.singleton_append] at h11
        have el : (a ++ ((m : Int) :: (packs ls).drop (a.length + 1))).length = a.length + (((packs ls).length - (a.length + 1)) + 1) := by rw [List.length_append, List.length_cons, List.length_drop]
        refine q _ [lstC p5 ((a ++ ((m : Int) :: (packs ls).drop (a.length + 1))).map V.int)] H11 ?_ (Hd.sb (A := stoC st c :: scrC c :: lstC p5 ((a ++ ((m : Int) :: (packs ls).drop (a.length + 1))).map V.int) :: (lstC sp_ ((offs ls ls.length).map V.int) :: lstC wp ((packs ls).map V.int) :: R)) h11 (by walk_at "sbx"))
        by_cases hlen : (a ++ ((m : Int) :: (packs ls).drop (a.length + 1))).length ≤ 400
        · refine .inr ⟨p5, _, rfl, hlen, fun x hx => ?_, hsp, fun H hz => hz.sqL (List.mem_cons_self ..)⟩
          rcases List.mem_append.mp hx with z | z
          · exact haw x z
          · rcases List.mem_cons.mp z with z | z
            · rw [z]; omega
            · exact hpw x (List.mem_of_mem_drop z)
        · exact spoV_long (by omega) (by omega)
end
end K46
set_option Elab.async false
set_option linter.all false
set_option maxRecDepth 100000
set_option maxHeartbeats 4000000
namespace K46
open PySem PySem.Spec PyProof.Rows L2 Wk
local macro_rules | `(tactic| walk_at "u1") => `(tactic| fail "no more")
local macro_rules | `(tactic| walk_at "pos") => `(tactic| first | assumption | omega | decide | (simp only [Int.ofNat_eq_natCast] at *; omega))
local macro_rules | `(tactic| walk_at "sz") => `(tactic| first
  | (simp only [List.length_cons, List.length_nil]; decide)
  | exact Evl.sz_of (by omega)
  | exact Evl.sz_lt (by omega)
  | exact Evl.sz_of (by simp only [List.length_map, List.length_append, List.length_cons, List.length_nil, List.length_replicate]; omega)
  | exact Evl.sz_lt (by simp only [List.length_map, List.length_append, List.length_cons, List.length_nil, List.length_replicate]; omega))
local macro_rules | `(tactic| walk_at "cond") => `(tactic| first
  | exact Or.inr ⟨by decide, by decide⟩
  | (show (0 : Int) < _; first | decide | assumption | omega)
  | exact Or.inl ⟨by omega, by omega⟩
  | exact Or.inr ⟨by omega, by omega⟩
  | exact ⟨by decide, by decide, by decide⟩
  | exact log2_lt (by omega) (by omega)
  | exact ⟨by omega, by omega⟩)
local macro_rules | `(tactic| walk_at "ty") => `(tactic| first
  | exact ty_int | exact ty_bl | exact ty_str | exact ty_non
  | exact ty_L (by assumption) | exact ty_T (by assumption)
  | exact ty_L (SqL.of (by assumption)) | exact ty_T (SqT.of (by assumption)))
local macro_rules | `(tactic| walk_at "kit") => `(tactic| first
  | exact k_ii | exact k_ib | exact k_is | exact k_il | exact k_it
  | exact k_bb | exact k_bi | exact k_bs | exact k_bl | exact k_bt
  | exact k_ss | exact k_sb | exact k_si | exact k_sl | exact k_st
  | exact k_ll | exact k_lb | exact k_li | exact k_ls | exact k_lt
  | exact k_tt | exact k_tb | exact k_ti | exact k_ts | exact k_tl
  | exact k_nn | exact k_ni | exact k_ns | exact k_nl | exact k_nt)
local macro_rules | `(tactic| walk_at "s1") => `(tactic| first
  | with_reducible refine w_seq ?_
  | with_reducible refine w_set ?_
  | with_reducible refine w_op ?_
  | ((with_reducible refine' w_var ?h1 ?_); (case h1 => rfl))
  | with_reducible refine w_c ?_
  | with_reducible refine w_cb ?_
  | with_reducible refine w_cons ?_
  | with_reducible refine w_nil ?_
  | with_reducible refine w_I0 ?_
  | ((with_reducible refine' w_I ?c1 ?_); case c1 => walk_at "cond")
  | with_reducible refine w_ret ?_
  | with_reducible refine w_next ?_
  | with_reducible refine w_ifS ?_
  | with_reducible refine w_test ?_
  | with_reducible refine w_tB ?_
  | with_reducible refine w_k ?_
  | with_reducible refine w_eqI ?_
  | with_reducible refine w_neI ?_
  | with_reducible refine w_eqS ?_
  | with_reducible refine w_neS ?_
  | with_reducible refine w_and ?_
  | with_reducible refine w_or ?_
  | with_reducible refine w_not ?_
  | with_reducible refine w_andV ?_
  | with_reducible refine w_orV ?_
  | with_reducible refine w_notV ?_
  | with_reducible refine w_ifE ?_
  | with_reducible refine w_true ?_
  | with_reducible refine w_false ?_
  | with_reducible refine w_ntrue ?_
  | with_reducible refine w_nfalse ?_
  | with_reducible refine w_call ?_
  | with_reducible refine c_int ?_
  | with_reducible refine c_abs ?_
  | with_reducible refine c_max ?_
  | with_reducible refine c_min ?_
  | with_reducible refine w_drop ?_
  | with_reducible refine w_sfld ?_
  | with_reducible refine w_meth ?_
  | with_reducible refine w_make ?_
  | with_reducible refine w_prop ?_
  | with_reducible refine w_callK ?_
  | with_reducible refine w_callN ?_
  | with_reducible refine w_star ?_
  | with_reducible refine w_gcons ?_
  | with_reducible refine w_gname ?_
  | with_reducible refine w_gnil ?_
  | with_reducible refine w_retN ?_
  | with_reducible refine w_tup ?_
  | with_reducible refine w_lst ?_
  | with_reducible refine w_fld ?_
  | with_reducible refine w_bm ?_
  | with_reducible refine w_bm0 ?_
  | with_reducible refine w_forL ?_
  | with_reducible refine w_forT ?_
  | with_reducible refine w_forS ?_
  | with_reducible refine w_forR ?_
  | with_reducible refine w_lcR ?_
  | with_reducible refine w_lcL ?_
  | with_reducible refine w_lcT ?_
  | with_reducible refine w_isN ?_
  | with_reducible refine w_notN ?_
  | with_reducible refine w_asg ?_
  | with_reducible refine w_gsub ?_
  | ((with_reducible refine' w_aug ?h1 ?_); (case h1 => rfl))
  | with_reducible refine w_augS ?_
  | with_reducible refine w_ipI ?_
  | with_reducible refine w_un ?_
  | with_reducible refine w_U ?_
  | ((with_reducible refine' w_iteF ?f1 ?_); case f1 => (first | (intro h; cases h; done) | decide))
  | ((with_reducible refine' w_iteT ?f1 ?_); case f1 => rfl)
  | ((with_reducible refine' w_iteNF ?f1 ?_); case f1 => rfl)
  | ((with_reducible refine' w_iteNT ?f1 ?_); case f1 => (first | (intro h; cases h; done) | decide))
  | ((with_reducible refine' c_isi ?t1 ?k1 ?_); (case t1 => walk_at "ty"); (case k1 => walk_at "kit"))
  | ((with_reducible refine' w_eq ?e1 ?_); case e1 => rfl)
  | ((with_reducible refine' w_ne ?e1 ?_); case e1 => rfl)
  | walk_at "u1")
local macro_rules | `(tactic| walk_at "s") => `(tactic| repeat walk_at "s1")
local macro_rules | `(tactic| walk_at "mem") => `(tactic| first | with_reducible exact List.mem_cons_self .. | ((with_reducible refine' List.mem_cons_of_mem _ ?q); (case q => walk_at "mem")) | assumption | ((with_reducible refine' List.mem_append_right _ ?q); (case q => walk_at "mem")) | (exact List.mem_append_left _ (by assumption)))
local macro_rules | `(tactic| walk_at "pk") => `(tactic| first | with_reducible exact Pk.here | ((with_reducible refine' Pk.there ?q); (case q => walk_at "pk")) | ((with_reducible refine' Pk.app ?q); (case q => walk_at "pk")))
local macro_rules | `(tactic| walk_at "pkb") => `(tactic| first | with_reducible exact PkB.here | ((with_reducible refine' PkB.there ?q); (case q => walk_at "pkb")) | ((with_reducible refine' PkB.app ?q); (case q => walk_at "pkb")))
local macro_rules | `(tactic| walk_at "spl") => `(tactic| first | with_reducible exact Spl.nil | ((with_reducible refine' Spl.cons ?h ?t); (case h => walk_at "pk"); (case t => walk_at "spl")) | ((with_reducible refine' Spl.blk ?h ?t); (case h => walk_at "pkb"); (case t => walk_at "spl")))
local macro_rules | `(tactic| walk_at "sbx") => `(tactic| first | with_reducible exact Sb.refl | with_reducible exact Sb.nil | with_reducible exact Sb.left | ((with_reducible refine' Sb.cons ?h ?t); (case h => walk_at "pk"); (case t => walk_at "sbx")) | ((with_reducible refine' Sb.blk ?h ?t); (case h => walk_at "pkb"); (case t => walk_at "sbx")) | ((with_reducible refine' Sb.drop ?q); (case q => walk_at "sbx")) | ((with_reducible refine' Sb.right ?q); (case q => walk_at "sbx")))
local macro_rules | `(tactic| walk_at "hd") => `(tactic| first | assumption | exact Hd.sb (by assumption) (by walk_at "sbx"))
local macro_rules | `(tactic| walk_at "sq") => `(tactic| first
  | assumption
  | exact Hd.sqL (by assumption) (by walk_at "mem")
  | exact Hd.sqT (by assumption) (by walk_at "mem")
  | exact Hd.sqF (by assumption) (by walk_at "mem")
  | (refine .inl ?_; walk_at "sq")
  | (refine .inr ?_; walk_at "sq"))
local macro_rules | `(tactic| walk_at "at") => `(tactic| first | rfl | assumption | exact atI_nat (by assumption))
local macro_rules | `(tactic| walk_at "dn1") => `(tactic| first
  | exact Dn.int | exact Dn.str | exact Dn.non | exact Dn.bl | assumption
  | ((refine' Dn.tp ?a1 ?m1 ?l1 ?p1); (case a1 => assumption); (case m1 => walk_at "mem"); (case l1 => (simp only [List.length_cons, List.length_nil]; omega)); (case p1 => walk_at "dns"))
  | ((refine' Dn.lt ?a1 ?m1 ?l1 ?p1); (case a1 => assumption); (case m1 => walk_at "mem"); (case l1 => (simp only [List.length_cons, List.length_nil]; omega)); (case p1 => walk_at "dns")))
local macro_rules | `(tactic| walk_at "dns") => `(tactic| first | exact Paired.nil | exact Dn.ints | ((refine' Paired.cons ?a1 ?b1); (case a1 => walk_at "dn1"); (case b1 => walk_at "dns")))
local macro_rules | `(tactic| walk_at "g1") => `(tactic| first
  | ((with_reducible refine' g_ixI ?h1 ?h2 ?h3 ?_); (case h1 => assumption); (case h2 => walk_at "mem"); (case h3 => omega); intro z hz)
  | ((with_reducible refine' g_ixIT ?h1 ?h2 ?h3 ?_); (case h1 => assumption); (case h2 => walk_at "mem"); (case h3 => omega); intro z hz)
  | ((with_reducible refine' g_setI ?h1 ?h2 ?h3 ?_); (case h1 => assumption); (case h2 => walk_at "pk"); (case h3 => omega); intro H2 hh2)
  | ((with_reducible refine' w_ixL ?h1 ?h2 ?_); (case h1 => walk_at "sq"); (case h2 => walk_at "at"))
  | ((with_reducible refine' w_ixT ?h1 ?h2 ?_); (case h1 => walk_at "sq"); (case h2 => walk_at "at"))
  | ((with_reducible refine' w_ixAny ?h1 ?h2 ?_); (case h1 => walk_at "sq"); (case h2 => walk_at "at"))
  | ((with_reducible refine' c_lenA ?h1 ?_); (case h1 => walk_at "sq"))
  | ((with_reducible refine' c_isi ?t1 ?k1 ?_); (case t1 => first | exact ty_T (by walk_at "sq") | exact ty_L (by walk_at "sq")); (case k1 => walk_at "kit"))
  | ((with_reducible refine' g_lst ?h1 ?h2 ?_); (case h1 => assumption); (case h2 => walk_at "sz"); intro p H2 hh2)
  | ((with_reducible refine' g_tup ?h1 ?h2 ?_); (case h1 => assumption); (case h2 => walk_at "sz"); intro p H2 hh2)
  | ((with_reducible refine' g_dict ?h1 ?_); (case h1 => assumption); intro p H2 hh2)
  | ((with_reducible refine' g_listL ?h1 ?h2 ?_); (case h1 => assumption); (case h2 => walk_at "sq"); intro p H2 hh2)
  | ((with_reducible refine' g_listT ?h1 ?h2 ?_); (case h1 => assumption); (case h2 => walk_at "sq"); intro p H2 hh2)
  | ((with_reducible refine' g_tupL ?h1 ?h2 ?_); (case h1 => assumption); (case h2 => walk_at "sq"); intro p H2 hh2)
  | ((with_reducible refine' g_set ?h1 ?h2 ?h3 ?_); (case h1 => assumption); (case h2 => walk_at "pk"); (case h3 => first | rfl | assumption | exact Evl.ixN_nat (by first | omega | (simp only [List.length_cons, List.length_nil]; omega))); intro H2 hh2)
  | ((with_reducible refine' g_kbm ?h1 ?h2 ?_); (case h1 => assumption); (case h2 => walk_at "mem"))
  | ((with_reducible refine' g_kbm0 ?h1 ?h2 ?_); (case h1 => assumption); (case h2 => walk_at "mem"))
  | ((with_reducible refine' g_app ?h1 ?h2 ?h3 ?_); (case h1 => assumption); (case h2 => walk_at "pk"); (case h3 => walk_at "sz"); intro H2 hh2)
  | ((with_reducible refine' g_kapp ?h1 ?h2 ?h3 ?_); (case h1 => assumption); (case h2 => walk_at "pk"); (case h3 => walk_at "sz"); intro H2 hh2)
  | ((with_reducible refine' g_fld ?h1 ?h2 ?h3 ?h4 ?h5 ?_); (case h1 => assumption); (case h2 => walk_at "mem"); (case h3 => assumption); (case h4 => assumption); (case h5 => rfl))
  | ((with_reducible refine' g_sfld ?h1 ?h2 ?h3 ?h4 ?h5 ?_); (case h1 => assumption); (case h2 => walk_at "pk"); (case h3 => assumption); (case h4 => assumption); (case h5 => decide); intro H2 hh2)
  | ((with_reducible refine' g_meth ?h1 ?h2 ?h3 ?_); (case h1 => assumption); (case h2 => walk_at "mem"); (case h3 => rfl))
  | ((with_reducible refine' g_prop ?h1 ?h2 ?_); (case h1 => assumption); (case h2 => walk_at "mem"))
  | ((with_reducible refine' g_make ?h1 ?_); (case h1 => assumption); intro x H2 hh2)
  | ((with_reducible refine' g_cat ?h1 ?h2 ?h3 ?h4 ?_); (case h1 => assumption); (case h2 => walk_at "mem"); (case h3 => walk_at "mem"); (case h4 => walk_at "sz"); intro p H2 hh2)
  | ((with_reducible refine' g_inT ?h1 ?h2 ?h3 ?h4 ?h5 ?_); (case h1 => assumption); (case h2 => walk_at "mem"); (case h3 => rfl); (case h4 => rfl); (case h5 => rfl)))
local macro_rules | `(tactic| walk_at "gs") => `(tactic| repeat first | walk_at "s1" | walk_at "g1")
local macro_rules | `(tactic| walk_at "ite") => `(tactic| first
  | ((with_reducible refine' w_iteT ?h1 ?_); (case h1 => omega))
  | ((with_reducible refine' w_iteF ?h1 ?_); (case h1 => omega))
  | (with_reducible refine w_ite ?_ ?_ <;> intro hq)
  | ((with_reducible refine' w_iteNT ?h1 ?_); (case h1 => omega))
  | ((with_reducible refine' w_iteNF ?h1 ?_); (case h1 => omega))
  | (with_reducible refine w_iteN ?_ ?_ <;> intro hq))
local macro_rules | `(tactic| walk_at "go") => `(tactic| repeat' first | walk_at "s1" | walk_at "g1" | walk_at "ite")
local macro_rules | `(tactic| walk_at "g1") => `(tactic| first
  | ((with_reducible refine' g_take1 ?h1 ?h2 ?h3 ?h4 ?_); (case h1 => assumption); (case h2 => walk_at "spl"); (case h3 => omega); (case h4 => omega); intro k H2 hk1 hh2)
  | ((with_reducible refine' g_take ?h1 ?h2 ?h4 ?_); (case h1 => assumption); (case h2 => walk_at "spl"); (case h4 => omega); intro k H2 hk1 hh2)
  | ((with_reducible refine' g_betweenN ?h1 ?h2 ?h5 ?h3 ?h4 ?_); (case h1 => assumption); (case h2 => walk_at "spl"); (case h5 => omega); (case h3 => omega); (case h4 => omega); intro k H2 hk1 hk2 hh2)
  | ((with_reducible refine' g_between ?h1 ?h2 ?h3 ?h4 ?_); (case h1 => assumption); (case h2 => walk_at "spl"); (case h3 => omega); (case h4 => omega); intro k H2 hk1 hk2 hh2)
  | ((with_reducible refine' g_size ?h1 ?h2 ?h3 ?h4 ?_); (case h1 => assumption); (case h2 => walk_at "spl"); (case h3 => omega); (case h4 => omega); intro k H2 hk1 hh2)
  | ((with_reducible refine' g_word ?h1 ?h2 ?_); (case h1 => assumption); (case h2 => walk_at "spl"); intro k H2 hk1 hh2))
local macro_rules | `(tactic| walk_at "g1") => `(tactic| first | with_reducible refine w_sl ?_ | with_reducible refine w_part ?_ | with_reducible refine w_noPart ?_ | with_reducible refine w_exI ?_)
section
variable {P : Program} {w : World} {K : PySem.W.Frag} {mg : Str → Option Value} {base : Heap} {aREG aOPS : Addr}
theorem offs_mem {ls : List (List Int)} {v : V} (h : v ∈ (offs ls ls.length).map V.int) : ∃ x : Nat, v = .int (x : Int) ∧ x ≤ (packs ls).length := by
  obtain ⟨x, hx, rfl⟩ := List.mem_map.mp h
  unfold offs at hx
  obtain ⟨j, hj, rfl⟩ := List.mem_map.mp hx
  have hj' := List.mem_range.mp hj
  have m := packs_mono (ls := ls) (show j ≤ ls.length by omega)
  rw [List.take_length] at m
  exact ⟨_, rfl, m⟩
theorem offs_pos {ls : List (List Int)} : 0 < ((offs ls ls.length).map V.int).length := by
  rw [List.length_map, offs_len]
  omega
theorem packs_rep : ∀ n : Nat, packs (List.replicate n ([] : List Int)) = List.replicate n (0 : Int)
  | 0 => rfl
  | n + 1 => by
    rw [List.replicate_succ, List.replicate_succ, ← packs_rep n]
    rfl
theorem unp_packs : ∀ {ls : List (List Int)}, (∀ l ∈ ls, l.length ≤ 7) → Unp (packs ls) ls []
  | [], _ => .nil
  | l :: ls, h => .cons (h l (List.mem_cons_self ..)) (unp_packs fun x hx => h x (List.mem_cons_of_mem _ hx))
theorem paired_app {α β : Type} {F : α → β → Prop} : ∀ {xs : List α} {ys : List β} {xs' : List α} {ys' : List β}, Paired F xs ys → Paired F xs' ys' → Paired F (xs ++ xs') (ys ++ ys')
  | _, _, _, _, .nil, q => q
  | _, _, _, _, .cons r t, q => .cons r (paired_app t q)
theorem paired_rep {α β : Type} {F : α → β → Prop} {x : α} {y : β} (h : F x y) : ∀ n : Nat, Paired F (List.replicate n x) (List.replicate n y)
  | 0 => .nil
  | n + 1 => .cons h (paired_rep h n)
theorem rep_one {α : Type} {x : α} : ∀ n : Nat, (List.replicate n [x]).flatten = List.replicate n x
  | 0 => rfl
  | n + 1 => by rw [List.replicate_succ, List.flatten_cons, rep_one n, List.replicate_succ]; rfl
theorem LsB.rep {p : Addr} {ws : List Int} (n : Nat) : LsB K [lstC p (ws.map V.int)] (List.replicate n (.ref p)) (List.replicate n ws) := fun H hz => paired_rep ⟨p, rfl, hz.lst (List.mem_cons_self ..)⟩ n
theorem LsB.app {Z Y : List Cell} {xs ys : List V} {ls ms : List (List Int)} (h : LsB K Z xs ls) (g : LsB K Y ys ms) : LsB K (Z ++ Y) (xs ++ ys) (ls ++ ms) := fun H hz => paired_app (h H hz.left) (g H (Hd.sb hz (by walk_at "sbx")))
section
variable {tP st c lp sp_ wp : Addr} {xs : List V} {ls : List (List Int)} {n : Nat} {Z R : List Cell} {H : Hp} {L : List Cell} {Q : VK} {E : XK}
theorem g_cutR (hh : Hd H L) (s : Spl L (lstC lp xs :: lstC sp_ ((offs ls ls.length).map V.int) :: lstC wp ((packs ls).map V.int) :: tblC tP :: Z) R) (hl : ls.length ≤ 50) (hw : ∀ l ∈ ls, l.length ≤ 7 ∧ ∀ x ∈ l, (0 : Int) ≤ x ∧ x ≤ 65535) (hn : n ≤ (packs ls).length) (hz : LsB K Z xs ls)
    (q : ∀ H', Hd H' (lstC lp xs :: lstC sp_ ((offs ls ls.length).map V.int) :: lstC wp ((packs ls).map V.int) :: tblC tP :: (Z ++ R)) → Q (.bl true) H') : sp_cutR K tP [.ref lp, .ref sp_, .ref wp, .int n] H Q E := ⟨lp, sp_, wp, xs, ls, n, Z, R, rfl, hl, hw, hn, hz, hh.spl s, q⟩
end
theorem called_spo {tP : Addr} {Z R : List Cell} {v : V} {H : Hp} {Q : VK} {E : XK} (hs : SpoV K Z v) (hh : Hd H (tblC tP :: (Z ++ R))) (q : ∀ t H', Hd H' (tupC t [.str "BadArgument", .str "words"] :: tblC tP :: (Z ++ R)) → Q (.ref t) H') : sp_called K tP [.str "unpack", v, .int 0] H Q E := by
  rcases hs with ⟨d, hb, hz⟩ | ⟨a, ws, rfl, hl, hw, hs, hz⟩
  · exact .inr (.inl ⟨v, d, Z ++ R, "words", .inl ⟨rfl, rfl, hb⟩, fun H' h => hz H' h.left, hh, q⟩)
  · exact .inr (.inr ⟨a, ws, Z ++ R, rfl, hl, hw, hs, fun H' h => hz H' h.left, hh, q⟩)
def sp_law (K : PySem.W.Frag) (tP : Addr) : Sp := fun vs H Q _ => ∃ (a : Addr) (ns : List Int), vs = [.ref a] ∧ SqL K H a (ns.map V.int) ∧ ns.length ≤ 63 ∧ GxR.TabG H tP ∧ ∀ H', Q (.bl true) H'
theorem c_law {tP f : Addr} {fd : FuncData} (T : Txt K mg aREG aOPS) (d : FunT K "law" s_law f fd) (c__law_store : C8.Cal P w K mg base 1 "_law_store" (sp_store K) []) (c__law_size : C8.Cal P w K mg base 3 "_law_size" sp_size []) (c__law_take : C8.Cal P w K mg base 2 "_law_take" sp_take []) (c__law_pick : C8.Cal P w K mg base 3 "_law_pick" (sp_pick K) [])
    (c__law_letter : C8.Cal P w K mg base 6 "_law_letter" sp_letter []) (c__law_words : C8.Cal P w K mg base 5 "_law_words" sp_lwords []) (c__law_joined : C8.Cal P w K mg base 9 "_law_joined" (sp_joined K tP) []) (c__law_cut_right : C8.Cal P w K mg base 9 "_law_cut_right" (sp_cutR K tP) []) (c__law_alike : C8.Cal P w K mg base 5 "_law_alike" (sp_alike K 5) [])
    (c__law_called : C8.Cal P w K mg base 8 "_law_called" (sp_called K tP) []) (c__law_spoilt : C8.Cal P w K mg base 6 "_law_spoilt" (sp_spoilt K) []) (c__law_wrong_letter : C8.Cal P w K mg base 7 "_law_wrong_letter" (sp_wrongL K) []) : FnOk P w K mg base CX0 10 f fd ["script"] (sp_law K tP) := by
  refine mkF d sc_law (fun vs H Q E h => ?_) (fun fa cdv A outer s H vs Q E hr h => ?_)
  · obtain ⟨a, ns, rfl, _⟩ := h
    rfl
  · obtain ⟨a, ns, rfl, ha, hn, hT, q⟩ := h
    have hh : Hd H [tblC tP] := let ⟨ps, e, t⟩ := hT; Hd.one (c := tblC tP) e ⟨ps, rfl, t⟩
    refine ⟨_, (pss_cons (ps_set (i := 1) sc_law.nd rfl (Or.inr rfl) (C8.pe_c c__law_store hr (by first | decide | omega) rfl (pa_cons (pv 0) (pa_cons pe_int pa_nil))))
  (pss_cons (ps_setLc (i := 2) (own := [("k", 12)]) rfl sc_law.nd rfl rfl (sw_true rfl rfl rfl (by decide +kernel)) (pi_range1 rfl T.b_range (pa_cons (C8.pe_c c__law_size hr (by first | decide | omega) rfl (pa_cons (pv 1) (pa_cons pe_int pa_nil))) pa_nil)) (blkOk_by (own := [("k", 12)]) (N := nm_law) (sc := defScope s_law) (by decide +kernel)) (fun _ _ _ _ _ => (pg_name (i := 12) sc_law.nd rfl (Or.inl rfl))) (fun _ _ _ _ _ => pts_nil) (fun _ _ _ _ _ => (C8.pe_c c__law_letter hr (by first | decide | omega) rfl (pa_cons (pv 1) pa_nil))))
  (C8.pss_cut (ps_if (pt_cmpR op_eq (C8.pe_c c__law_take hr (by first | decide | omega) rfl (pa_cons (pv 1) (pa_cons pe_int pa_nil))) pe_int (nomark _))
    (pss_one (ps_set (i := 2) sc_law.nd rfl (Or.inl rfl) (pe_op op_rep (pe_lst (pa_cons (C8.pe_c c__law_words hr (by first | decide | omega) rfl (pa_cons (pv 1) (pa_cons pe_int pa_nil))) pa_nil)) (pe_op op_add pe_int (C8.pe_c c__law_take hr (by first | decide | omega) rfl (pa_cons (pv 1) (pa_cons pe_int pa_nil)))))))
    pss_nil)
  (pss_cons (ps_set (i := 3) sc_law.nd rfl (Or.inl rfl) (C8.pe_c c__law_joined hr (by first | decide | omega) rfl (pa_cons (pv 2) pa_nil)))
  (pss_cons (ps_if (pt_cmpR op_isN1 (pv 3) pe_non (nomark _))
    (pss_one (ps_ret pe_bl))
    pss_nil)
  (pss_cons (ps_asg (pv 3) (pg_tup rfl (pgs_cons (pg_name (i := 4) sc_law.nd rfl (Or.inl rfl)) (pgs_cons (pg_name (i := 5) sc_law.nd rfl (Or.inl rfl)) pgs_nil))))
  (pss_cons (ps_set (i := 6) sc_law.nd rfl (Or.inl rfl) (pe_lst (pa_cons pe_int (pa_cons (pe_callB Wk.b_len (by rfl) T.b_len (by decide +kernel) (pa_cons (pv 5) pa_nil)) (pa_cons (C8.pe_c c__law_take hr (by first | decide | omega) rfl (pa_cons (pv 1) (pa_cons (pe_op op_add (pe_callB Wk.b_len (by rfl) T.b_len (by decide +kernel) (pa_cons (pv 5) pa_nil)) pe_int) pa_nil))) (pa_cons (C8.pe_c c__law_take hr (by first | decide | omega) rfl (pa_cons (pv 1) (pa_cons (pe_op op_add (pe_callB Wk.b_len (by rfl) T.b_len (by decide +kernel) (pa_cons (pv 5) pa_nil)) pe_int) pa_nil))) pa_nil))))))
  (pss_cons (ps_expr (pe_bm PySem.F.plainAttrs_list PySem.F.slot_list_append PySem.F.type_list_append mt_append (pv 6) (pa_cons (pe_callB (Wk.b_max rfl) (by rfl) T.b_max (by decide +kernel) (pa_cons pe_int (pa_cons (pe_op op_sub (C8.pe_c c__law_pick hr (by first | decide | omega) rfl (pa_cons (pv 1) (pa_cons (pv 4) pa_nil))) pe_int) pa_nil))) pa_nil)))
  (pss_cons (ps_expr (pe_bm PySem.F.plainAttrs_list PySem.F.slot_list_append PySem.F.type_list_append mt_append (pv 6) (pa_cons (pe_callB (Wk.b_min rfl) (by rfl) T.b_min (by decide +kernel) (pa_cons (pe_callB Wk.b_len (by rfl) T.b_len (by decide +kernel) (pa_cons (pv 5) pa_nil)) (pa_cons (pe_op op_add (C8.pe_c c__law_pick hr (by first | decide | omega) rfl (pa_cons (pv 1) (pa_cons (pv 4) pa_nil))) pe_int) pa_nil))) pa_nil)))
  (pss_cons (ps_for PassesOwn.never rfl (pi_list (pv 6)) (pg_name (i := 7) sc_law.nd rfl (Or.inl rfl))
    (pss_one (ps_if (pt_not (pt_val (C8.pe_c c__law_cut_right hr (by first | decide | omega) rfl (pa_cons (pv 2) (pa_cons (pv 4) (pa_cons (pv 5) (pa_cons (pv 7) pa_nil)))))))
        (pss_one (ps_ret pe_bl))
        pss_nil)))
  (pss_cons (ps_set (i := 8) sc_law.nd rfl (Or.inl rfl) (pe_op op_sub pe_int (pe_callB Wk.b_len (by rfl) T.b_len (by decide +kernel) (pa_cons (pv 5) pa_nil))))
  (C8.pss_cut (ps_if (pt_cmpR op_eq (C8.pe_c c__law_take hr (by first | decide | omega) rfl (pa_cons (pv 1) (pa_cons pe_int pa_nil))) pe_int (nomark _))
    (pss_cons (ps_set (i := 9) sc_law.nd rfl (Or.inl rfl) (pe_tup (pa_cons pe_str (pa_cons (pe_tup (pa_cons (pe_op op_cat (pv 2) (pe_op op_rep (pe_lst (pa_cons (pe_lst pa_nil) pa_nil)) (pv 8))) (pa_cons (pe_lst pa_nil) pa_nil))) pa_nil))))
      (pss_one (ps_if (pt_not (pt_val (C8.pe_c c__law_alike hr (by first | decide | omega) rfl (pa_cons (pv 9) (pa_cons (C8.pe_c c__law_called hr (by first | decide | omega) rfl (pa_cons pe_str (pa_cons (pe_op op_cat (pv 5) (pe_op op_rep (pe_lst (pa_cons pe_int pa_nil)) (pv 8))) (pa_cons pe_int pa_nil)))) pa_nil)))))
        (pss_one (ps_ret pe_bl))
        pss_nil)))
    pss_nil)
  (pss_cons (ps_set (i := 10) sc_law.nd rfl (Or.inl rfl) (C8.pe_c c__law_spoilt hr (by first | decide | omega) rfl (pa_cons (pv 1) (pa_cons (pv 4) (pa_cons (pv 5) pa_nil)))))
  (pss_cons (ps_if (pt_not (pt_val (C8.pe_c c__law_alike hr (by first | decide | omega) rfl (pa_cons (pe_tup (pa_cons pe_str (pa_cons pe_str pa_nil))) (pa_cons (C8.pe_c c__law_called hr (by first | decide | omega) rfl (pa_cons pe_str (pa_cons (pv 10) (pa_cons pe_int pa_nil)))) pa_nil)))))
    (pss_one (ps_ret pe_bl))
    pss_nil)
  (pss_cons (ps_set (i := 11) sc_law.nd rfl (Or.inl rfl) (C8.pe_c c__law_wrong_letter hr (by first | decide | omega) rfl (pa_cons (pv 1) pa_nil)))
  (pss_cons (ps_if (pt_not (pt_val (C8.pe_c c__law_alike hr (by first | decide | omega) rfl (pa_cons (pe_tup (pa_cons pe_str (pa_cons pe_str pa_nil))) (pa_cons (C8.pe_c c__law_called hr (by first | decide | omega) rfl (pa_cons pe_str (pa_cons (pv 11) (pa_cons pe_int pa_nil)))) pa_nil)))))
    (pss_one (ps_ret pe_bl))
    pss_nil)
  (pss_one (ps_ret (C8.pe_c c__law_cut_right hr (by first | decide | omega) rfl (pa_cons (pv 2) (pa_cons (pv 4) (pa_cons (pv 5) (pa_cons (pe_callB Wk.b_len (by rfl) T.b_len (by decide +kernel) (pa_cons (pv 5) pa_nil)) pa_nil))))))))))))))))))))))), ?_⟩
    walk_at "gs"
    refine g_store (by assumption) ha hn (by omega) (by omega) fun st c H1 h1 => ?_
    walk_at "gs"
    rename_i k0 H2 hk0 h2
    refine g_lcR h2 rfl (by omega) (fun i D H => ∃ (as : List Addr) (ls : List (List Int)), as.length = i ∧ ls.length = i ∧ (∀ l ∈ ls, l.length ≤ 7 ∧ ∀ x ∈ l, (0 : Int) ≤ x ∧ x ≤ 65535) ∧ Hd H (lstC D (as.map V.ref) :: stoC st c :: scrC c :: (Ls as ls ++ [tblC tP]))) (fun D H1 h1 => ⟨[], [], rfl, rfl, fun _ h => absurd h (List.not_mem_nil), (show Hd H1 (lstC D [] :: stoC st c :: scrC c :: tblC tP :: []) by walk_at "hd")⟩) ?_ ?_
    · rintro i D H3 hi ⟨as, ls, ea, el, hw, h3⟩
      walk_at "gs"
      refine g_letter h3 (by walk_at "spl") fun p ws H4 hl hws h4 => ?_
      refine g_kapp h4 (by walk_at "pk") (by rw [List.length_map, ea]; exact Nat.lt_of_lt_of_le (show i < 1001 by omega) (by decide)) fun H5 h5 => ?_
      refine ⟨as ++ [p], ls ++ [ws], by simp [ea], by simp [el], fun l hl' => ?_, ?_⟩
      · rcases List.mem_append.mp hl' with h | h
        · exact hw l h
        · rw [List.mem_singleton.mp h]; exact ⟨hl, hws⟩
      · rw [Ls.snoc (by omega), List.map_append, List.append_assoc, List.singleton_append]
        exact (show Hd H5 (lstC D (as.map V.ref ++ [V.ref p]) :: stoC st c :: scrC c :: (Ls as ls ++ lstC p (ws.map V.int) :: [tblC tP])) from Hd.sb h5 (by walk_at "sbx"))
    · rintro D H3 ⟨as, ls, ea, el, hw, h3⟩
      walk_at "gs"
      refine w_cut (fun σ H => ∃ (lp : Addr) (xs : List V) (ls : List (List Int)) (Z : List Cell), σ = [some (.ref a), some (.ref st), some (.ref lp), none, none, none, none, none, none, none, none, none, none] ∧ ls.length ≤ 50 ∧ (∀ l ∈ ls, l.length ≤ 7 ∧ ∀ x ∈ l, (0 : Int) ≤ x ∧ x ≤ 65535) ∧ LsB K Z xs ls ∧ Hd H (lstC lp xs :: stoC st c :: scrC c :: tblC tP :: (Z ++ []))) ?_ ?_
      · walk_at "gs"
        rename_i k1 H4 hk1 h4
        refine w_ite (fun e => ?_) (fun e => ?_)
        · walk_at "gs"
          refine g_words (n := 7) h4 (by walk_at "spl") (by decide) fun p ws H5 hn5 hws h5 => ?_
          clear h1 h2 h3 h4
          walk_at "gs"
          rename_i p2 H6 h6 k2 H7 hk2 h7
          have ek : ((1 : Int) + (k2 : Int)).toNat = 1 + k2 := by omega
          refine g_rep h7 (by walk_at "mem") (by omega) (by omega) (by rw [ek]; exact Nat.le_trans (show 1 * (1 + k2) ≤ 401 by omega) (by decide)) fun p3 H8 h8 => ?_
          rw [ek, rep_one] at h8
          exact ⟨p3, List.replicate (1 + k2) (.ref p), List.replicate (1 + k2) ws, [lstC p (ws.map V.int)], rfl, by rw [List.length_replicate]; omega, fun l hl => by rw [List.eq_of_mem_replicate hl]; exact ⟨by omega, hws⟩, LsB.rep _, Hd.sb (A := lstC p3 (List.replicate (1 + k2) (V.ref p)) :: stoC st c :: scrC c :: tblC tP :: lstC p (ws.map V.int) :: []) h8 (by walk_at "sbx")⟩
        · walk_at "gs"
          exact ⟨D, as.map V.ref, ls, Ls as ls, rfl, by omega, hw, ls_b (by omega), Hd.sb (A := lstC D (as.map V.ref) :: stoC st c :: scrC c :: tblC tP :: (Ls as ls ++ [])) h4 (by walk_at "sbx")⟩
      · rintro σ H4 ⟨lp, xs, ls, Z, rfl, hl, hw, hz, h4⟩
        have hpl := packs_len (ls := ls) fun l h => (hw l h).1
        have hpw := packs_word hw
        clear h1 h2 h3
        walk_at "gs"
        refine ⟨lp, xs, ls, Z, [stoC st c, scrC c], rfl, hl, hw, hz, Hd.sb h4 (by walk_at "sbx"), fun t sp_ wp H5 h5 => ?_⟩
        walk_at "gs"
        refine w_gtup (h5.sqT (by walk_at "mem")) rfl ?_
        refine w_gcons (w_gname (w_gcons (w_gname (w_gnil ?_))))
        have h6 : Hd H5 (lstC lp xs :: lstC sp_ ((offs ls ls.length).map V.int) :: lstC wp ((packs ls).map V.int) :: tblC tP :: stoC st c :: scrC c :: (Z ++ [])) := Hd.sb h5 (by walk_at "sbx")
        clear h4 h5
        walk_at "gs"
        simp only [List.length_map]
        refine g_take1 h6 (by walk_at "spl") (by omega) (by omega) fun k1 H6 hk1 h7 => ?_
        clear h6
        walk_at "gs"
        simp only [List.length_map]
        refine g_take1 h7 (by walk_at "spl") (by omega) (by omega) fun k2 H7 hk2 h8 => ?_
        clear h7
        walk_at "gs"
        rename_i pl H8 h9
        refine g_pick h9 (by walk_at "spl") (by walk_at "mem") offs_pos (by rw [List.length_map, offs_len]; omega) fun v H9 hv h10 => ?_
        obtain ⟨x3, rfl, hx3⟩ := offs_mem hv
        clear h8 h9
        walk_at "gs"
        rename_i H10 h11
        obtain ⟨n4, e4, hn4⟩ : ∃ n4 : Nat, (if (x3 : Int) - 1 > 0 then (x3 : Int) - 1 else 0) = (n4 : Int) ∧ n4 ≤ (packs ls).length := ⟨x3 - 1, by split <;> omega, by omega⟩
        rw [e4] at h11
        clear h10
        refine g_pick h11 (by walk_at "spl") (by walk_at "mem") offs_pos (by rw [List.length_map, offs_len]; omega) fun v2 H11 hv2 h12 => ?_
        obtain ⟨x5, rfl, hx5⟩ := offs_mem hv2
        clear h11
        walk_at "gs"
        rename_i H12 h13
        clear h12
        simp only [List.length_map] at h13
        obtain ⟨n6, e6, hn6⟩ : ∃ n6 : Nat, (if (x5 : Int) + 1 < ((packs ls).length : Int) then (x5 : Int) + 1 else ((packs ls).length : Int)) = (n6 : Int) ∧ n6 ≤ (packs ls).length := ⟨min (x5 + 1) (packs ls).length, by split <;> omega, by omega⟩
        rw [e6] at h13
        have hplm : ∀ y ∈ ([V.int 0, V.int ((packs ls).length : Int), V.int k1, V.int k2] ++ [V.int (n4 : Int)] ++ [V.int (n6 : Int)] : List V), ∃ n : Nat, y = .int (n : Int) ∧ n ≤ (packs ls).length := fun y hy => by
          simp only [List.cons_append, List.nil_append, List.mem_cons, List.not_mem_nil, or_false] at hy
          rcases hy with rfl | rfl | rfl | rfl | rfl | rfl
          · exact ⟨0, rfl, by omega⟩
          · exact ⟨_, rfl, Nat.le_refl _⟩
          · exact ⟨k1, rfl, by omega⟩
          · exact ⟨k2, rfl, by omega⟩
          · exact ⟨n4, rfl, hn4⟩
          · exact ⟨n6, rfl, hn6⟩
        generalize ([V.int 0, V.int ((packs ls).length : Int), V.int k1, V.int k2] ++ [V.int (n4 : Int)] ++ [V.int (n6 : Int)] : List V) = PL at h13 hplm
        refine l_list (Hd.sqL h13 (by walk_at "mem")) (fun i σ H => ∃ v7 : Option V, σ = [some (.ref a), some (.ref st), some (.ref lp), some (.ref t), some (.ref sp_), some (.ref wp), some (.ref pl), v7, none, none, none, none, none] ∧
          Hd H (lstC pl PL :: stoC st c :: scrC c :: lstC lp xs :: lstC sp_ ((offs ls ls.length).map V.int) :: lstC wp ((packs ls).map V.int) :: tblC tP :: (Z ++ []))) ⟨_, rfl, h13⟩ ?_ ?_ ?_
        · rintro i σ H _ ⟨_, _, h⟩
          exact Hd.sqL h (by walk_at "mem")
        · rintro i y σ H13 hy ⟨v7, rfl, h14⟩
          clear h13
          obtain ⟨m, rfl, hm⟩ := hplm y (List.mem_of_getElem? hy)
          walk_at "gs"
          refine ⟨lp, sp_, wp, xs, ls, m, Z, lstC pl PL :: stoC st c :: scrC c :: [], rfl, hl, hw, hm, hz, Hd.sb h14 (by walk_at "sbx"), fun H15 h15 => ?_⟩
          walk_at "gs"
          exact ⟨_, rfl, Hd.sb h15 (by walk_at "sbx")⟩
        · rintro σ H13 ⟨v7, rfl, h14⟩
          clear h13
          walk_at "gs"
          refine w_cut (fun σ H => ∃ (v9 : Option V), σ = [some (.ref a), some (.ref st), some (.ref lp), some (.ref t), some (.ref sp_), some (.ref wp), some (.ref pl), v7, some (.int ((400 : Int) - ((packs ls).length : Int))), v9, none, none, none] ∧
            Hd H (lstC lp xs :: lstC sp_ ((offs ls ls.length).map V.int) :: lstC wp ((packs ls).map V.int) :: tblC tP :: stoC st c :: scrC c :: (Z ++ []))) ?_ ?_
          · simp only [List.length_map]
            walk_at "gs"
            refine w_ite (fun e => ?_) (fun e => ?_)
            · walk_at "gs"
              rename_i p1 _ _ p2 H16 h16
              have ek : ((400 : Int) - ((packs ls).length : Int)).toNat = 400 - (packs ls).length := by omega
              have exl : xs.length = ls.length := (hz _ (Hd.sb h14 (by walk_at "sbx"))).length
              refine g_rep h16 (by walk_at "mem") (by omega) (by omega) (by rw [ek]; exact Nat.le_trans (show 1 * (400 - (packs ls).length) ≤ 401 by omega) (by decide)) fun p3 H17 h17 => ?_
              rw [ek, rep_one] at h17
              refine g_cat h17 (by walk_at "mem") (by walk_at "mem") (by rw [List.length_replicate]; exact Nat.le_trans (show xs.length + (400 - (packs ls).length) ≤ 450 by omega) (by decide)) fun p4 H18 h18 => ?_
              have h19 : Hd H18 (lstC p4 (xs ++ List.replicate (400 - (packs ls).length) (V.ref p1)) :: lstC p1 [] :: lstC lp xs :: lstC sp_ ((offs ls ls.length).map V.int) :: lstC wp ((packs ls).map V.int) :: tblC tP :: stoC st c :: scrC c :: (Z ++ [])) := Hd.sb h18 (by walk_at "sbx")
              clear h14 h16 h17 h18
              walk_at "gs"
              rename_i pe _ _ t1 _ _ t2 _ _ p5 H20 h20
              refine g_rep h20 (by walk_at "mem") (by omega) (by omega) (by rw [ek]; exact Nat.le_trans (show 1 * (400 - (packs ls).length) ≤ 401 by omega) (by decide)) fun p6 H21 h21 => ?_
              rw [ek, rep_ints] at h21
              clear h20
              walk_at "gs"
              rename_i p7 H22 h22
              rw [← List.map_append] at h22
              clear h21
              have h23 : Hd H22 (tblC tP :: lstC p7 ((packs ls ++ List.replicate (400 - (packs ls).length) (0 : Int)).map V.int) :: tupC t2 [V.str "answer", V.ref t1] :: tupC t1 [V.ref p4, V.ref pe] :: lstC pe [] :: lstC p4 (xs ++ List.replicate (400 - (packs ls).length) (V.ref p1)) :: lstC p1 [] :: lstC lp xs :: lstC sp_ ((offs ls ls.length).map V.int) :: lstC wp ((packs ls).map V.int) :: stoC st c :: scrC c :: (Z ++ [])) := Hd.sb h22 (by walk_at "sbx")
              replace h23 : Hd H22 (tblC tP :: lstC p7 ((packs ls ++ List.replicate (400 - (packs ls).length) (0 : Int)).map V.int) :: tupC t2 [V.str "answer", V.ref t1] :: tupC t1 [V.ref p4, V.ref pe] :: lstC pe (([] : List Int).map V.int) :: lstC p4 (xs ++ List.replicate (400 - (packs ls).length) (V.ref p1)) :: lstC p1 [] :: lstC lp xs :: lstC sp_ ((offs ls ls.length).map V.int) :: lstC wp ((packs ls).map V.int) :: stoC st c :: scrC c :: (Z ++ [])) := h23
              clear h22
              have lb : LsB K (Z ++ [lstC p1 []]) (xs ++ List.replicate (400 - (packs ls).length) (V.ref p1)) (ls ++ List.replicate (400 - (packs ls).length) []) := hz.app (LsB.rep (K := K) (p := p1) (ws := []) (400 - (packs ls).length) : LsB K [lstC p1 []] _ _)
              have l7 : ∀ l ∈ ls ++ List.replicate (400 - (packs ls).length) [], l.length ≤ 7 := fun l hl => by
                rcases List.mem_append.mp hl with h | h
                · exact (hw l h).1
                · rw [List.eq_of_mem_replicate h]; exact Nat.zero_le _
              have l9 : ∀ l ∈ ls ++ List.replicate (400 - (packs ls).length) [], l.length ≤ 9 := fun l hl => Nat.le_trans (l7 l hl) (by decide)
              have l10 : (ls ++ List.replicate (400 - (packs ls).length) ([] : List Int)).length ≤ 1000 := by rw [List.length_append, List.length_replicate]; omega
              refine .inl (.inr ⟨p7, packs ls ++ List.replicate (400 - (packs ls).length) (0 : Int), ls ++ List.replicate (400 - (packs ls).length) [], [], 0, lstC p7 ((packs ls ++ List.replicate (400 - (packs ls).length) (0 : Int)).map V.int) :: tupC t2 [V.str "answer", V.ref t1] :: tupC t1 [V.ref p4, V.ref pe] :: lstC pe (([] : List Int).map V.int) :: lstC p4 (xs ++ List.replicate (400 - (packs ls).length) (V.ref p1)) :: lstC p1 [] :: lstC lp xs :: lstC sp_ ((offs ls ls.length).map V.int) :: lstC wp ((packs ls).map V.int) :: stoC st c :: scrC c :: (Z ++ []), rfl, by decide, by rw [List.length_append, List.length_replicate]; omega, fun x hx => ?_, ?_, fun H' h => h.sqL (List.mem_cons_self ..), h23, fun u t' p' q' as' H24 ha' h24 => ?_⟩)
              · rcases List.mem_append.mp hx with z | z
                · exact hpw x z
                · rw [List.eq_of_mem_replicate z]; omega
              · rw [← packs_rep, ← packs_app]
                exact unp_packs l7
              · clear h23
                walk_at "gs"
                refine u_alike (n := 4) (d := .tuple [.str "answer", ansD (ls ++ List.replicate (400 - (packs ls).length) []) []]) (Dn.tp (n := 3) h24 (by walk_at "mem") (by simp) (.cons Dn.str (.cons (ans_dn lb l9 l10 (Nat.zero_le _) h24 (Hd.sb h24 (by walk_at "sbx")) (by walk_at "mem") (by walk_at "mem") (by walk_at "mem")) .nil)))
                  (Dn.tp (n := 3) h24 (by walk_at "mem") (by simp) (.cons Dn.str (.cons (ans_dn (ls_b ha') l9 l10 (Nat.zero_le _) h24 (Hd.sb h24 (by walk_at "sbx")) (by walk_at "mem") (by walk_at "mem") (by walk_at "mem")) .nil))) ?_
                walk_at "gs"
                exact ⟨_, rfl, Hd.sb h24 (by walk_at "sbx")⟩
            · walk_at "gs"
              exact ⟨_, rfl, Hd.sb (by assumption) (by walk_at "sbx")⟩
          · rintro σ H14 ⟨v9, rfl, h15⟩
            clear h14
            walk_at "gs"
            refine ⟨st, c, sp_, wp, ls, tblC tP :: lstC lp xs :: (Z ++ []), rfl, hl, hw, Hd.sb h15 (by walk_at "sbx"), fun v Zs H16 hsv h16 => ?_⟩
            clear h15
            walk_at "gs"
            rename_i t1 H17 h17
            refine called_spo (R := tupC t1 [V.str "BadArgument", V.str "words"] :: lstC lp xs :: lstC sp_ ((offs ls ls.length).map V.int) :: lstC wp ((packs ls).map V.int) :: stoC st c :: scrC c :: (Z ++ [])) hsv (Hd.sb h17 (by walk_at "sbx")) fun t2 H18 h18 => ?_
            clear h16 h17
            walk_at "gs"
            refine u_alike (n := 4) (d := .tuple [.str "BadArgument", .str "words"]) (Dn.tp (n := 3) h18 (by walk_at "mem") (by simp) (.cons Dn.str (.cons Dn.str .nil))) (Dn.tp (n := 3) h18 (by walk_at "mem") (by simp) (.cons Dn.str (.cons Dn.str .nil))) ?_
            have h19 : Hd H18 (stoC st c :: scrC c :: tblC tP :: lstC lp xs :: lstC sp_ ((offs ls ls.length).map V.int) :: lstC wp ((packs ls).map V.int) :: (Z ++ [])) := Hd.sb h18 (by walk_at "sbx")
            clear h18
            walk_at "gs"
            refine g_wrongL h19 (by walk_at "spl") fun v2 d2 Z2 H20 hb2 hz2 h20 => ?_
            clear h19
            walk_at "gs"
            rename_i t3 H21 h21
            refine .inr (.inl ⟨v2, d2, tupC t3 [V.str "BadArgument", V.str "letter"] :: (Z2 ++ (lstC lp xs :: lstC sp_ ((offs ls ls.length).map V.int) :: lstC wp ((packs ls).map V.int) :: stoC st c :: scrC c :: (Z ++ []))), "letter", .inr ⟨rfl, rfl, hb2⟩, fun H' h => hz2 H' (Hd.sb h (by walk_at "sbx")), Hd.sb h21 (by walk_at "sbx"), fun t4 H22 h22 => ?_⟩)
            clear h20 h21
            walk_at "gs"
            refine u_alike (n := 4) (d := .tuple [.str "BadArgument", .str "letter"]) (Dn.tp (n := 3) h22 (by walk_at "mem") (by simp) (.cons Dn.str (.cons Dn.str .nil))) (Dn.tp (n := 3) h22 (by walk_at "mem") (by simp) (.cons Dn.str (.cons Dn.str .nil))) ?_
            walk_at "gs"
            simp only [List.length_map]
            refine ⟨lp, sp_, wp, xs, ls, (packs ls).length, Z, [], rfl, hl, hw, Nat.le_refl _, hz, Hd.sb h22 (by walk_at "sbx"), fun H23 h23 => ?_⟩
            exact q H23
end
end K46
set_option Elab.async false
set_option linter.all false
set_option maxRecDepth 100000
set_option maxHeartbeats 4000000
namespace K46
open PySem PySem.Spec PyProof.Rows L2 Wk
local macro_rules | `(tactic| walk_at "u1") => `(tactic| fail "no more")
local macro_rules | `(tactic| walk_at "pos") => `(tactic| first | assumption | omega | decide | (simp only [Int.ofNat_eq_natCast] at *; omega))
local macro_rules | `(tactic| walk_at "sz") => `(tactic| first
  | (simp only [List.length_cons, List.length_nil]; decide)
  | exact Evl.sz_of (by omega)
  | exact Evl.sz_lt (by omega)
  | exact Evl.sz_of (by simp only [List.length_map, List.length_append, List.length_cons, List.length_nil, List.length_replicate]; omega)
  | exact Evl.sz_lt (by simp only [List.length_map, List.length_append, List.length_cons, List.length_nil, List.length_replicate]; omega))
local macro_rules | `(tactic| walk_at "cond") => `(tactic| first
  | exact Or.inr ⟨by decide, by decide⟩
  | (show (0 : Int) < _; first | decide | assumption | omega)
  | exact Or.inl ⟨by omega, by omega⟩
  | exact Or.inr ⟨by omega, by omega⟩
  | exact ⟨by decide, by decide, by decide⟩
  | exact log2_lt (by omega) (by omega)
  | exact ⟨by omega, by omega⟩)
local macro_rules | `(tactic| walk_at "ty") => `(tactic| first
  | exact ty_int | exact ty_bl | exact ty_str | exact ty_non
  | exact ty_L (by assumption) | exact ty_T (by assumption)
  | exact ty_L (SqL.of (by assumption)) | exact ty_T (SqT.of (by assumption)))
local macro_rules | `(tactic| walk_at "kit") => `(tactic| first
  | exact k_ii | exact k_ib | exact k_is | exact k_il | exact k_it
  | exact k_bb | exact k_bi | exact k_bs | exact k_bl | exact k_bt
  | exact k_ss | exact k_sb | exact k_si | exact k_sl | exact k_st
  | exact k_ll | exact k_lb | exact k_li | exact k_ls | exact k_lt
  | exact k_tt | exact k_tb | exact k_ti | exact k_ts | exact k_tl
  | exact k_nn | exact k_ni | exact k_ns | exact k_nl | exact k_nt)
local macro_rules | `(tactic| walk_at "s1") => `(tactic| first
  | with_reducible refine w_seq ?_
  | with_reducible refine w_set ?_
  | with_reducible refine w_op ?_
  | ((with_reducible refine' w_var ?h1 ?_); (case h1 => rfl))
  | with_reducible refine w_c ?_
  | with_reducible refine w_cb ?_
  | with_reducible refine w_cons ?_
  | with_reducible refine w_nil ?_
  | with_reducible refine w_I0 ?_
  | ((with_reducible refine' w_I ?c1 ?_); case c1 => walk_at "cond")
  | with_reducible refine w_ret ?_
  | with_reducible refine w_next ?_
  | with_reducible refine w_ifS ?_
  | with_reducible refine w_test ?_
  | with_reducible refine w_tB ?_
  | with_reducible refine w_k ?_
  | with_reducible refine w_eqI ?_
  | with_reducible refine w_neI ?_
  | with_reducible refine w_eqS ?_
  | with_reducible refine w_neS ?_
  | with_reducible refine w_and ?_
  | with_reducible refine w_or ?_
  | with_reducible refine w_not ?_
  | with_reducible refine w_andV ?_
  | with_reducible refine w_orV ?_
  | with_reducible refine w_notV ?_
  | with_reducible refine w_ifE ?_
  | with_reducible refine w_true ?_
  | with_reducible refine w_false ?_
  | with_reducible refine w_ntrue ?_
  | with_reducible refine w_nfalse ?_
  | with_reducible refine w_call ?_
  | with_reducible refine c_int ?_
  | with_reducible refine c_abs ?_
  | with_reducible refine c_max ?_
  | with_reducible refine c_min ?_
  | with_reducible refine w_drop ?_
  | with_reducible refine w_sfld ?_
  | with_reducible refine w_meth ?_
  | with_reducible refine w_make ?_
  | with_reducible refine w_prop ?_
  | with_reducible refine w_callK ?_
  | with_reducible refine w_callN ?_
  | with_reducible refine w_star ?_
  | with_reducible refine w_gcons ?_
  | with_reducible refine w_gname ?_
  | with_reducible refine w_gnil ?_
  | with_reducible refine w_retN ?_
  | with_reducible refine w_tup ?_
  | with_reducible refine w_lst ?_
  | with_reducible refine w_fld ?_
  | with_reducible refine w_bm ?_
  | with_reducible refine w_bm0 ?_
  | with_reducible refine w_forL ?_
  | with_reducible refine w_forT ?_
  | with_reducible refine w_forS ?_
  | with_reducible refine w_forR ?_
  | with_reducible refine w_lcR ?_
  | with_reducible refine w_lcL ?_
  | with_reducible refine w_lcT ?_
  | with_reducible refine w_isN ?_
  | with_reducible refine w_notN ?_
  | with_reducible refine w_asg ?_
  | with_reducible refine w_gsub ?_
  | ((with_reducible refine' w_aug ?h1 ?_); (case h1 => rfl))
  | with_reducible refine w_augS ?_
  | with_reducible refine w_ipI ?_
  | with_reducible refine w_un ?_
  | with_reducible refine w_U ?_
  | ((with_reducible refine' w_iteF ?f1 ?_); case f1 => (first | (intro h; cases h; done) | decide))
  | ((with_reducible refine' w_iteT ?f1 ?_); case f1 => rfl)
  | ((with_reducible refine' w_iteNF ?f1 ?_); case f1 => rfl)
  | ((with_reducible refine' w_iteNT ?f1 ?_); case f1 => (first | (intro h; cases h; done) | decide))
  | ((with_reducible refine' c_isi ?t1 ?k1 ?_); (case t1 => walk_at "ty"); (case k1 => walk_at "kit"))
  | ((with_reducible refine' w_eq ?e1 ?_); case e1 => rfl)
  | ((with_reducible refine' w_ne ?e1 ?_); case e1 => rfl)
  | walk_at "u1")
local macro_rules | `(tactic| walk_at "s") => `(tactic| repeat walk_at "s1")
local macro_rules | `(tactic| walk_at "mem") => `(tactic| first | with_reducible exact List.mem_cons_self .. | ((with_reducible refine' List.mem_cons_of_mem _ ?q); (case q => walk_at "mem")) | assumption | ((with_reducible refine' List.mem_append_right _ ?q); (case q => walk_at "mem")) | (exact List.mem_append_left _ (by assumption)))
local macro_rules | `(tactic| walk_at "pk") => `(tactic| first | with_reducible exact Pk.here | ((with_reducible refine' Pk.there ?q); (case q => walk_at "pk")) | ((with_reducible refine' Pk.app ?q); (case q => walk_at "pk")))
local macro_rules | `(tactic| walk_at "pkb") => `(tactic| first | with_reducible exact PkB.here | ((with_reducible refine' PkB.there ?q); (case q => walk_at "pkb")) | ((with_reducible refine' PkB.app ?q); (case q => walk_at "pkb")))
local macro_rules | `(tactic| walk_at "spl") => `(tactic| first | with_reducible exact Spl.nil | ((with_reducible refine' Spl.cons ?h ?t); (case h => walk_at "pk"); (case t => walk_at "spl")) | ((with_reducible refine' Spl.blk ?h ?t); (case h => walk_at "pkb"); (case t => walk_at "spl")))
local macro_rules | `(tactic| walk_at "sbx") => `(tactic| first | with_reducible exact Sb.refl | with_reducible exact Sb.nil | with_reducible exact Sb.left | ((with_reducible refine' Sb.cons ?h ?t); (case h => walk_at "pk"); (case t => walk_at "sbx")) | ((with_reducible refine' Sb.blk ?h ?t); (case h => walk_at "pkb"); (case t => walk_at "sbx")) | ((with_reducible refine' Sb.drop ?q); (case q => walk_at "sbx")) | ((with_reducible refine' Sb.right ?q); (case q => walk_at "sbx")))
local macro_rules | `(tactic| walk_at "hd") => `(tactic| first | assumption | exact Hd.sb (by assumption) (by walk_at "sbx"))
local macro_rules | `(tactic| walk_at "sq") => `(tactic| first
  | assumption
  | exact Hd.sqL (by assumption) (by walk_at "mem")
  | exact Hd.sqT (by assumption) (by walk_at "mem")
  | exact Hd.sqF (by assumption) (by walk_at "mem")
  | (refine .inl ?_; walk_at "sq")
  | (refine .inr ?_; walk_at "sq"))
local macro_rules | `(tactic| walk_at "at") => `(tactic| first | rfl | assumption | exact atI_nat (by assumption))
local macro_rules | `(tactic| walk_at "dn1") => `(tactic| first
  | exact Dn.int | exact Dn.str | exact Dn.non | exact Dn.bl | assumption
  | ((refine' Dn.tp ?a1 ?m1 ?l1 ?p1); (case a1 => assumption); (case m1 => walk_at "mem"); (case l1 => (simp only [List.length_cons, List.length_nil]; omega)); (case p1 => walk_at "dns"))
  | ((refine' Dn.lt ?a1 ?m1 ?l1 ?p1); (case a1 => assumption); (case m1 => walk_at "mem"); (case l1 => (simp only [List.length_cons, List.length_nil]; omega)); (case p1 => walk_at "dns")))
local macro_rules | `(tactic| walk_at "dns") => `(tactic| first | exact Paired.nil | exact Dn.ints | ((refine' Paired.cons ?a1 ?b1); (case a1 => walk_at "dn1"); (case b1 => walk_at "dns")))
local macro_rules | `(tactic| walk_at "g1") => `(tactic| first
  | ((with_reducible refine' g_ixI ?h1 ?h2 ?h3 ?_); (case h1 => assumption); (case h2 => walk_at "mem"); (case h3 => omega); intro z hz)
  | ((with_reducible refine' g_ixIT ?h1 ?h2 ?h3 ?_); (case h1 => assumption); (case h2 => walk_at "mem"); (case h3 => omega); intro z hz)
  | ((with_reducible refine' g_setI ?h1 ?h2 ?h3 ?_); (case h1 => assumption); (case h2 => walk_at "pk"); (case h3 => omega); intro H2 hh2)
  | ((with_reducible refine' w_ixL ?h1 ?h2 ?_); (case h1 => walk_at "sq"); (case h2 => walk_at "at"))
  | ((with_reducible refine' w_ixT ?h1 ?h2 ?_); (case h1 => walk_at "sq"); (case h2 => walk_at "at"))
  | ((with_reducible refine' w_ixAny ?h1 ?h2 ?_); (case h1 => walk_at "sq"); (case h2 => walk_at "at"))
  | ((with_reducible refine' c_lenA ?h1 ?_); (case h1 => walk_at "sq"))
  | ((with_reducible refine' c_isi ?t1 ?k1 ?_); (case t1 => first | exact ty_T (by walk_at "sq") | exact ty_L (by walk_at "sq")); (case k1 => walk_at "kit"))
  | ((with_reducible refine' g_lst ?h1 ?h2 ?_); (case h1 => assumption); (case h2 => walk_at "sz"); intro p H2 hh2)
  | ((with_reducible refine' g_tup ?h1 ?h2 ?_); (case h1 => assumption); (case h2 => walk_at "sz"); intro p H2 hh2)
  | ((with_reducible refine' g_dict ?h1 ?_); (case h1 => assumption); intro p H2 hh2)
  | ((with_reducible refine' g_listL ?h1 ?h2 ?_); (case h1 => assumption); (case h2 => walk_at "sq"); intro p H2 hh2)
  | ((with_reducible refine' g_listT ?h1 ?h2 ?_); (case h1 => assumption); (case h2 => walk_at "sq"); intro p H2 hh2)
  | ((with_reducible refine' g_tupL ?h1 ?h2 ?_); (case h1 => assumption); (case h2 => walk_at "sq"); intro p H2 hh2)
  | ((with_reducible refine' g_set ?h1 ?h2 ?h3 ?_); (case h1 => assumption); (case h2 => walk_at "pk"); (case h3 => first | rfl | assumption | exact Evl.ixN_nat (by first | omega | (simp only [List.length_cons, List.length_nil]; omega))); intro H2 hh2)
  | ((with_reducible refine' g_kbm ?h1 ?h2 ?_); (case h1 => assumption); (case h2 => walk_at "mem"))
  | ((with_reducible refine' g_kbm0 ?h1 ?h2 ?_); (case h1 => assumption); (case h2 => walk_at "mem"))
  | ((with_reducible refine' g_app ?h1 ?h2 ?h3 ?_); (case h1 => assumption); (case h2 => walk_at "pk"); (case h3 => walk_at "sz"); intro H2 hh2)
  | ((with_reducible refine' g_kapp ?h1 ?h2 ?h3 ?_); (case h1 => assumption); (case h2 => walk_at "pk"); (case h3 => walk_at "sz"); intro H2 hh2)
  | ((with_reducible refine' g_fld ?h1 ?h2 ?h3 ?h4 ?h5 ?_); (case h1 => assumption); (case h2 => walk_at "mem"); (case h3 => assumption); (case h4 => assumption); (case h5 => rfl))
  | ((with_reducible refine' g_sfld ?h1 ?h2 ?h3 ?h4 ?h5 ?_); (case h1 => assumption); (case h2 => walk_at "pk"); (case h3 => assumption); (case h4 => assumption); (case h5 => decide); intro H2 hh2)
  | ((with_reducible refine' g_meth ?h1 ?h2 ?h3 ?_); (case h1 => assumption); (case h2 => walk_at "mem"); (case h3 => rfl))
  | ((with_reducible refine' g_prop ?h1 ?h2 ?_); (case h1 => assumption); (case h2 => walk_at "mem"))
  | ((with_reducible refine' g_make ?h1 ?_); (case h1 => assumption); intro x H2 hh2)
  | ((with_reducible refine' g_cat ?h1 ?h2 ?h3 ?h4 ?_); (case h1 => assumption); (case h2 => walk_at "mem"); (case h3 => walk_at "mem"); (case h4 => walk_at "sz"); intro p H2 hh2)
  | ((with_reducible refine' g_inT ?h1 ?h2 ?h3 ?h4 ?h5 ?_); (case h1 => assumption); (case h2 => walk_at "mem"); (case h3 => rfl); (case h4 => rfl); (case h5 => rfl)))
local macro_rules | `(tactic| walk_at "gs") => `(tactic| repeat first | walk_at "s1" | walk_at "g1")
local macro_rules | `(tactic| walk_at "ite") => `(tactic| first
  | ((with_reducible refine' w_iteT ?h1 ?_); (case h1 => omega))
  | ((with_reducible refine' w_iteF ?h1 ?_); (case h1 => omega))
  | (with_reducible refine w_ite ?_ ?_ <;> intro hq)
  | ((with_reducible refine' w_iteNT ?h1 ?_); (case h1 => omega))
  | ((with_reducible refine' w_iteNF ?h1 ?_); (case h1 => omega))
  | (with_reducible refine w_iteN ?_ ?_ <;> intro hq))
local macro_rules | `(tactic| walk_at "go") => `(tactic| repeat' first | walk_at "s1" | walk_at "g1" | walk_at "ite")
local macro_rules | `(tactic| walk_at "g1") => `(tactic| first
  | ((with_reducible refine' g_take1 ?h1 ?h2 ?h3 ?h4 ?_); (case h1 => assumption); (case h2 => walk_at "spl"); (case h3 => omega); (case h4 => omega); intro k H2 hk1 hh2)
  | ((with_reducible refine' g_take ?h1 ?h2 ?h4 ?_); (case h1 => assumption); (case h2 => walk_at "spl"); (case h4 => omega); intro k H2 hk1 hh2)
  | ((with_reducible refine' g_betweenN ?h1 ?h2 ?h5 ?h3 ?h4 ?_); (case h1 => assumption); (case h2 => walk_at "spl"); (case h5 => omega); (case h3 => omega); (case h4 => omega); intro k H2 hk1 hk2 hh2)
  | ((with_reducible refine' g_between ?h1 ?h2 ?h3 ?h4 ?_); (case h1 => assumption); (case h2 => walk_at "spl"); (case h3 => omega); (case h4 => omega); intro k H2 hk1 hk2 hh2)
  | ((with_reducible refine' g_size ?h1 ?h2 ?h3 ?h4 ?_); (case h1 => assumption); (case h2 => walk_at "spl"); (case h3 => omega); (case h4 => omega); intro k H2 hk1 hh2)
  | ((with_reducible refine' g_word ?h1 ?h2 ?_); (case h1 => assumption); (case h2 => walk_at "spl"); intro k H2 hk1 hh2))
local macro_rules | `(tactic| walk_at "g1") => `(tactic| first | with_reducible refine w_sl ?_ | with_reducible refine w_part ?_ | with_reducible refine w_noPart ?_ | with_reducible refine w_exI ?_)
section
variable {P : Program} {w : World} {K : PySem.W.Frag} {mg : Str → Option Value} {base : Heap} {aREG aOPS : Addr}
/-- every def of the text under its name -/
structure Defs (K : PySem.W.Frag) (mg : Str → Option Value) (C cW : Addr) : Prop where
  is_integer : DefAt K mg "is_integer" s_is_integer
  is_in_range : DefAt K mg "is_in_range" s_is_in_range
  is_word : DefAt K mg "is_word" s_is_word
  are_words : DefAtC K mg "are_words" s_are_words cW
  is_list_of_words : DefAt K mg "is_list_of_words" s_is_list_of_words
  ask_words : DefAt K mg "ask_words" s_ask_words
  pack_letter : DefAt K mg "pack_letter" s_pack_letter
  unpack_letters : DefAt K mg "unpack_letters" s_unpack_letters
  mixed : DefAt K mg "_law_mixed" s__law_mixed
  store : DefAt K mg "_law_store" s__law_store
  take : DefAt K mg "_law_take" s__law_take
  pick : DefAt K mg "_law_pick" s__law_pick
  between : DefAt K mg "_law_between" s__law_between
  size : DefAt K mg "_law_size" s__law_size
  word : DefAt K mg "_law_word" s__law_word
  words : DefAt K mg "_law_words" s__law_words
  wrong_integer : DefAt K mg "_law_wrong_integer" s__law_wrong_integer
  wrong_words : DefAt K mg "_law_wrong_words" s__law_wrong_words
  alike : DefAt K mg "_law_alike" s__law_alike
  copy : DefAt K mg "_law_copy" s__law_copy
  letter : DefAt K mg "_law_letter" s__law_letter
  wrong_letter : DefAt K mg "_law_wrong_letter" s__law_wrong_letter
  refusal : DefAt K mg "_law_refusal" s__law_refusal
  called : DefAt K mg "_law_called" s__law_called
  joined : DefAt K mg "_law_joined" s__law_joined
  cut_right : DefAt K mg "_law_cut_right" s__law_cut_right
  spoilt : DefAt K mg "_law_spoilt" s__law_spoilt
theorem all_law {C CE W cW tP f fBI : Addr} {fd fdBI : FuncData} (T : Txt K mg aREG aOPS) (TB : GxR.TabB base mg cW tP) (D : Defs K mg C cW)
    (F : FunT K "law" s_law f fd) (R : ErrC K mg CE W fBI) (dBI : DefM K "__init__" "BadArgument.__init__" s_BadArgument____init__ [] fBI fdBI) : FnOk P w K mg base CX0 10 f fd ["script"] (sp_law K tP) := by
  have mixed := c_mixed (P := P) (w := w) (base := base) T D.mixed
  have store := c_store (P := P) (w := w) (base := base) T D.store
  have take := c_take T D.take mixed
  have pick := c_pick T D.pick take
  have between := c_between T D.between take
  have size := c_size T D.size take
  have word := c_word T D.word take pick
  have alike2 := c_alike (P := P) (w := w) (base := base) T D.alike 2
  have alike4 := c_alike (P := P) (w := w) (base := base) T D.alike 4
  have alike5 := c_alike (P := P) (w := w) (base := base) T D.alike 5
  have copy2 := c_copy (P := P) (w := w) (base := base) T D.copy 2
  have copy3 := c_copy (P := P) (w := w) (base := base) T D.copy 3
  have copy4 := c_copy (P := P) (w := w) (base := base) T D.copy 4
  have int_ := c_integer (P := P) (w := w) (base := base) T D.is_integer
  have range := c_range T D.is_in_range int_
  have isword := c_isword T D.is_word range
  have words := c_words (P := P) (w := w) T TB D.are_words D.is_integer D.is_in_range D.is_word
  have isl := c_isl T D.is_list_of_words words
  have islF := c_islF T D.is_list_of_words words
  have askWs := c_askWs T D.ask_words isl
  have askWX := x_askW T R dBI D.ask_words islF
  have pack := c_pack T D.pack_letter askWs
  have packK := ck_pack T D.pack_letter askWs
  have unpack := c_unpack T D.unpack_letters askWs
  have unpackK := ck_unpack T D.unpack_letters askWs
  have packX := x_pack T D.pack_letter askWX
  have unpackX := x_unpack T R dBI D.unpack_letters askWs askWX
  have copyL := c_copyL 0 T D.copy (c_copy (P := P) (w := w) (base := base) T D.copy 1)
  have lwords := c_words_ T D.words take word
  have wrong := c_wrongD T D.wrong_integer take pick
  have wrongW := c_wrongW T D.wrong_words take pick wrong
  have letter := c_letter T D.letter between lwords
  have wrongL := c_wrongL T D.wrong_letter letter wrongW
  obtain ⟨fE, fdE, FE, hmE⟩ := D.refusal
  have called := c_called T R D.called copyL copy3 alike2 pack packK unpack unpackK packX unpackX (e_err T R FE) hmE FE.kp (FunD.bindsN FE fun _ _ _ _ _ _ us hl => match us, hl with | [_], _ => rfl)
  have joined := c_joined T D.joined copy2 alike4 called
  have cutR := c_cutR T D.cut_right copy4 alike5 called
  have spoilt := c_spoilt T D.spoilt take pick wrongW
  exact c_law T F store size take pick letter lwords joined cutR alike5 called spoilt wrongL
end
end K46
namespace K46
open PySem PySem.Spec PyProof.Rows L2 Wk
theorem facts_err {K : PySem.W.Frag} {h : Heap} {mg : Str → Option Value} (X : K.In h) (G : h.Ns mainGlobals mg) (c : errB K = true) : ErrC K mg (He.ga K "BadArgument") (He.ga K "WardError") (He.fAd K ("BadArgument", some "__init__")) := by
  obtain ⟨h1, c⟩ := He.ba c
  obtain ⟨h2, c⟩ := He.ba c
  obtain ⟨h3, c⟩ := He.ba c
  obtain ⟨h4, c⟩ := He.ba c
  obtain ⟨h5, c⟩ := He.ba c
  obtain ⟨h6, c⟩ := He.ba c
  obtain ⟨h7, c⟩ := He.ba c
  obtain ⟨h8, c⟩ := He.ba c
  obtain ⟨h9, c⟩ := He.ba c
  obtain ⟨h10, c⟩ := He.ba c
  obtain ⟨h11, c⟩ := He.ba c
  obtain ⟨h12, c⟩ := He.ba c
  obtain ⟨h13, c⟩ := He.ba c
  obtain ⟨h14, c⟩ := He.ba c
  obtain ⟨h15, c⟩ := He.ba c
  refine ⟨PySem.W.mg_of X G (He.eqO_ok h1), PySem.W.mg_of X G (He.eqO_ok h2), PySem.W.mg_none_of X G (He.eqO_ok h3), oexB_ok h4, L2.xfB_ok h5, excB_ok h6, He.eqO_ok h7, He.eqO_ok h8, of_decide_eq_true h9, He.eqO_ok h10, wrB_ok h11, of_decide_eq_true h12, of_decide_eq_true h13, of_decide_eq_true h14, of_decide_eq_true h15, fun x hx => ?_⟩
  obtain ⟨z1, z2⟩ := He.ba (List.all_eq_true.mp c x hx)
  exact ⟨_, PySem.W.mg_of X G (He.eqO_ok z1), of_decide_eq_true z2⟩
theorem facts {P : Program} {w : World} {K : PySem.W.Frag} {h : Heap} {mg : Str → Option Value} {f : Addr} (X : K.In h) (G : h.Ns mainGlobals mg) (hfa : mg ("law" : Str) = some (.ref f)) (c : He.SaysX fa fn [] tf ex w h K) :
    ∃ fd : FuncData, (∀ (s : Shared) (v : Value), BindsTo s fd ⟨[v], []⟩ [("script", v)]) ∧ ∀ base : Heap, (GxR.TabB base mg (He.codeOf K ("are_words", none)) (He.tabOf K (He.codeOf K ("are_words", none)))) → FnOk P w K mg base CX0 10 f fd ["script"] (sp_law K (He.tabOf K (He.codeOf K ("are_words", none)))) := by
  have x6 := c.more
  obtain ⟨fd_is_integer, F_is_integer⟩ := c.t.d.def_ 0 (d := d_is_integer) rfl
  obtain ⟨fd_is_in_range, F_is_in_range⟩ := c.t.d.def_ 1 (d := d_is_in_range) rfl
  obtain ⟨fd_is_word, F_is_word⟩ := c.t.d.def_ 2 (d := d_is_word) rfl
  obtain ⟨fd_are_words, F_are_words⟩ := c.t.d.def_ 3 (d := d_are_words) rfl
  obtain ⟨fd_is_list_of_words, F_is_list_of_words⟩ := c.t.d.def_ 4 (d := d_is_list_of_words) rfl
  obtain ⟨fd_ask_words, F_ask_words⟩ := c.t.d.def_ 5 (d := d_ask_words) rfl
  obtain ⟨fd_pack_letter, F_pack_letter⟩ := c.t.d.def_ 6 (d := d_pack_letter) rfl
  obtain ⟨fd_unpack_letters, F_unpack_letters⟩ := c.t.d.def_ 7 (d := d_unpack_letters) rfl
  obtain ⟨fd__law_mixed, F__law_mixed⟩ := c.t.d.def_ 8 (d := d__law_mixed) rfl
  obtain ⟨fd__law_store, F__law_store⟩ := c.t.d.def_ 9 (d := d__law_store) rfl
  obtain ⟨fd__law_take, F__law_take⟩ := c.t.d.def_ 10 (d := d__law_take) rfl
  obtain ⟨fd__law_pick, F__law_pick⟩ := c.t.d.def_ 11 (d := d__law_pick) rfl
  obtain ⟨fd__law_between, F__law_between⟩ := c.t.d.def_ 12 (d := d__law_between) rfl
  obtain ⟨fd__law_size, F__law_size⟩ := c.t.d.def_ 13 (d := d__law_size) rfl
  obtain ⟨fd__law_word, F__law_word⟩ := c.t.d.def_ 14 (d := d__law_word) rfl
  obtain ⟨fd__law_words, F__law_words⟩ := c.t.d.def_ 15 (d := d__law_words) rfl
  obtain ⟨fd__law_wrong_integer, F__law_wrong_integer⟩ := c.t.d.def_ 16 (d := d__law_wrong_integer) rfl
  obtain ⟨fd__law_wrong_words, F__law_wrong_words⟩ := c.t.d.def_ 17 (d := d__law_wrong_words) rfl
  obtain ⟨fd__law_alike, F__law_alike⟩ := c.t.d.def_ 18 (d := d__law_alike) rfl
  obtain ⟨fd__law_copy, F__law_copy⟩ := c.t.d.def_ 19 (d := d__law_copy) rfl
  obtain ⟨fd__law_letter, F__law_letter⟩ := c.t.d.def_ 20 (d := d__law_letter) rfl
  obtain ⟨fd__law_wrong_letter, F__law_wrong_letter⟩ := c.t.d.def_ 21 (d := d__law_wrong_letter) rfl
  obtain ⟨fd__law_refusal, F__law_refusal⟩ := c.t.d.def_ 22 (d := d__law_refusal) rfl
  obtain ⟨fd__law_called, F__law_called⟩ := c.t.d.def_ 23 (d := d__law_called) rfl
  obtain ⟨fd__law_joined, F__law_joined⟩ := c.t.d.def_ 24 (d := d__law_joined) rfl
  obtain ⟨fd__law_cut_right, F__law_cut_right⟩ := c.t.d.def_ 25 (d := d__law_cut_right) rfl
  obtain ⟨fd__law_spoilt, F__law_spoilt⟩ := c.t.d.def_ 26 (d := d__law_spoilt) rfl
  obtain ⟨fd_law, F_law⟩ := c.t.d.def_ 27 (d := d_law) rfl
  obtain ⟨fdB_init, FB_init⟩ := c.t.d.def_ 28 (d := d_B_init) rfl
  have e := hfa.symm.trans (He.glo_ok X G (c.t.d.fact 27 (f := .glo "law") rfl))
  cases e
  have b := FunD.bindsA (ps := ["script"]) F_law fun _ _ _ _ _ _ us hl => match us, hl with | [_], _ => rfl
  have T : Txt K mg 0 0 := ⟨⟨He.free_ok X G (c.t.d.fact 29 (f := .free "int") rfl), He.free_ok X G (c.t.d.fact 30 (f := .free "len") rfl), He.free_ok X G (c.t.d.fact 31 (f := .free "range") rfl), He.free_ok X G (c.t.d.fact 32 (f := .free "list") rfl), He.free_ok X G (c.t.d.fact 33 (f := .free "abs") rfl), He.free_ok X G (c.t.d.fact 34 (f := .free "min") rfl), He.free_ok X G (c.t.d.fact 35 (f := .free "max") rfl), He.free_ok X G (c.t.d.fact 36 (f := .free "isinstance") rfl), He.free_ok X G (c.t.d.fact 37 (f := .free "bool") rfl), He.free_ok X G (c.t.d.fact 38 (f := .free "str") rfl), He.free_ok X G (c.t.d.fact 39 (f := .free "tuple") rfl), He.free_ok X G (c.t.d.fact 40 (f := .free "dict") rfl), He.free_ok X G (c.t.d.fact 41 (f := .free "sorted") rfl), He.free_ok X G (c.t.d.fact 42 (f := .free "all") rfl), He.free_ok X G (c.t.d.fact 43 (f := .free "any") rfl), He.free_ok X G (c.t.d.fact 44 (f := .free "zip") rfl), He.free_ok X G (c.t.d.fact 45 (f := .free "enumerate") rfl), He.free_ok X G (c.t.d.fact 46 (f := .free "sum") rfl)⟩, let ⟨t, e⟩ := He.int_ok X G (c.t.d.fact 28 (f := .int "WORDS" 65536) rfl); ⟨_, e, ⟨t, rfl⟩⟩⟩
  have code : ∃ c0, fd_are_words.code = .ref c0 ∧ He.codeOf K ("are_words", none) = c0 := by
    obtain ⟨oc, od, dV, kV, doc, pm, an, cdv, ct, osl, e, lk, hcd, _⟩ := F_are_words.ex
    obtain ⟨c0, rfl⟩ := He.codeIn_ref hcd
    exact ⟨c0, by rw [e], He.codeOf_eq lk (by rw [e])⟩
  obtain ⟨c0, hc0, hc1⟩ := code
  have D : Defs K mg 0 (He.codeOf K ("are_words", none)) := ⟨
    ⟨_, _, F_is_integer, He.glo_ok X G (c.t.d.fact 0 (f := .glo "is_integer") rfl)⟩,
    ⟨_, _, F_is_in_range, He.glo_ok X G (c.t.d.fact 1 (f := .glo "is_in_range") rfl)⟩,
    ⟨_, _, F_is_word, He.glo_ok X G (c.t.d.fact 2 (f := .glo "is_word") rfl)⟩,
    ⟨_, _, ⟨F_are_words, hc1 ▸ hc0⟩, He.glo_ok X G (c.t.d.fact 3 (f := .glo "are_words") rfl)⟩,
    ⟨_, _, F_is_list_of_words, He.glo_ok X G (c.t.d.fact 4 (f := .glo "is_list_of_words") rfl)⟩,
    ⟨_, _, F_ask_words, He.glo_ok X G (c.t.d.fact 5 (f := .glo "ask_words") rfl)⟩,
    ⟨_, _, F_pack_letter, He.glo_ok X G (c.t.d.fact 6 (f := .glo "pack_letter") rfl)⟩,
    ⟨_, _, F_unpack_letters, He.glo_ok X G (c.t.d.fact 7 (f := .glo "unpack_letters") rfl)⟩,
    ⟨_, _, F__law_mixed, He.glo_ok X G (c.t.d.fact 8 (f := .glo "_law_mixed") rfl)⟩,
    ⟨_, _, F__law_store, He.glo_ok X G (c.t.d.fact 9 (f := .glo "_law_store") rfl)⟩,
    ⟨_, _, F__law_take, He.glo_ok X G (c.t.d.fact 10 (f := .glo "_law_take") rfl)⟩,
    ⟨_, _, F__law_pick, He.glo_ok X G (c.t.d.fact 11 (f := .glo "_law_pick") rfl)⟩,
    ⟨_, _, F__law_between, He.glo_ok X G (c.t.d.fact 12 (f := .glo "_law_between") rfl)⟩,
    ⟨_, _, F__law_size, He.glo_ok X G (c.t.d.fact 13 (f := .glo "_law_size") rfl)⟩,
    ⟨_, _, F__law_word, He.glo_ok X G (c.t.d.fact 14 (f := .glo "_law_word") rfl)⟩,
    ⟨_, _, F__law_words, He.glo_ok X G (c.t.d.fact 15 (f := .glo "_law_words") rfl)⟩,
    ⟨_, _, F__law_wrong_integer, He.glo_ok X G (c.t.d.fact 16 (f := .glo "_law_wrong_integer") rfl)⟩,
    ⟨_, _, F__law_wrong_words, He.glo_ok X G (c.t.d.fact 17 (f := .glo "_law_wrong_words") rfl)⟩,
    ⟨_, _, F__law_alike, He.glo_ok X G (c.t.d.fact 18 (f := .glo "_law_alike") rfl)⟩,
    ⟨_, _, F__law_copy, He.glo_ok X G (c.t.d.fact 19 (f := .glo "_law_copy") rfl)⟩,
    ⟨_, _, F__law_letter, He.glo_ok X G (c.t.d.fact 20 (f := .glo "_law_letter") rfl)⟩,
    ⟨_, _, F__law_wrong_letter, He.glo_ok X G (c.t.d.fact 21 (f := .glo "_law_wrong_letter") rfl)⟩,
    ⟨_, _, F__law_refusal, He.glo_ok X G (c.t.d.fact 22 (f := .glo "_law_refusal") rfl)⟩,
    ⟨_, _, F__law_called, He.glo_ok X G (c.t.d.fact 23 (f := .glo "_law_called") rfl)⟩,
    ⟨_, _, F__law_joined, He.glo_ok X G (c.t.d.fact 24 (f := .glo "_law_joined") rfl)⟩,
    ⟨_, _, F__law_cut_right, He.glo_ok X G (c.t.d.fact 25 (f := .glo "_law_cut_right") rfl)⟩,
    ⟨_, _, F__law_spoilt, He.glo_ok X G (c.t.d.fact 26 (f := .glo "_law_spoilt") rfl)⟩⟩
  refine ⟨fd_law, fun s v => b s [v] rfl, fun base TB => ?_⟩
  exact all_law T TB D F_law (facts_err X G x6) FB_init
end K46
open PySem PySem.W PySem.Calls PyProof.Rows
theorem PySem.Challenge.cw_wardwork_k46_packed_letters_holds : PySem.Challenge.rw_wardwork_k46_packed_letters.Holds := by
  w_on; o_law
  refine HandSHeadRun.head_any (r := OpenLaw.row PySem.Challenge.rw_wardwork_k46_packed_letters) (q := view (OpenLaw.row PySem.Challenge.rw_wardwork_k46_packed_letters).prog [42]) (H := K46.hookY) (ob := K46.ob) (M := 20000) (loose := K46.loose) (d := HandSHeadRun.topDef (OpenLaw.row PySem.Challenge.rw_wardwork_k46_packed_letters).prog 42) (kwd := []) K46.ob_eq
    (by kernel_rfl) (fun s => by kernel_rfl) K46.run (by kernel_rfl) (by kernel_rfl) (by kernel_rfl) (by rfl) (by first | assumption | decide +kernel) (by decide +kernel) ⟨rfl, rfl, rfl, rfl, rfl, by decide +kernel⟩ ?hw ?hc
  case hw => w_witness2
  case hc =>
    refine LamX.walk_ofTsE (l := PySem.Challenge.rw_wardwork_k46_packed_letters) (n := 63) (k := 10) (x := "script") (CX := fun _ => C8.CX0) rfl (by decide) (by kernel_rfl) ⟨rfl, by decide, by decide⟩ ?F (fun _ _ _ _ _ z => z)
    intro w mg fa h Y G hmg0
    obtain ⟨K, KX, c⟩ := Y
    have hmg : mg ("law" : PySem.Str) = some (.ref fa) := by
      have e : (HandSHeadRun.topDef (OpenLaw.row PySem.Challenge.rw_wardwork_k46_packed_letters).prog 42).name = ("law" : PySem.Str) := by kernel_rfl
      rw [← e]
      exact hmg0
    obtain ⟨fd, hb, hF⟩ := K46.facts (P := (PySem.Challenge.rw_wardwork_k46_packed_letters).prog) (w := w) KX G hmg c
    refine ⟨K, KX, fd, [He.cT K ("are_words", none)], K46.sp_law K (He.tabOf K (He.codeOf K ("are_words", none))), fun p hp => ?_, fun p hp => ?_, fun p hp => ?_, hb, fun H a ns hl _ hT hS => ⟨a, ns, rfl, hS, hl, ⟨#[], hT _ (List.mem_cons_self ..), trivial⟩, fun _ => rfl⟩, fun base _ _ hTB => hF base ?_⟩
    · cases List.mem_singleton.mp hp
      exact c.empty _ (List.mem_cons_self ..)
    · cases List.mem_singleton.mp hp
      exact c.out _ (List.mem_cons_self ..)
    · cases List.mem_singleton.mp hp
      exact PySem.W.codeHd_of_K KX (c.hd _ (List.mem_cons_self ..))
    · have t := hTB _ (List.mem_cons_self ..)
      exact ⟨t.code, t.bm, t.gP⟩
