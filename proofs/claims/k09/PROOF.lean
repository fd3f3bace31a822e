import PyProof.Rows.All
import Wide.All
import OpenK.AllK
import Wide.FinOn
import HandS.ForMost
import HandS.Wide
import HandS.WideBits
import HandS.Gcd
import HandS.IsInst
import HandS.Defaults
import HandS.Style
import HandS.Evl
import KE.GoesZip
import KE.GoesMore
import KE.KFromBytes
import HandS.Exc
import HandS.ExcInit
import HandS.ExcField
import HandS.ExcIs
import HandS.ExcValue
import KE.KExcIs
import HandS.TryMany
import HandS.More
import KE.KIntText
import KE.IntTextLaws
import PyProof.StrOps2
import HandS.Codes
import HandS.Call
import HandS.ExcOwn
import HandS.WordsExc
import HandS.TupAny
import KE.SortData
import KE.DataCmp
import HandS.CallLocal
import HandS.CallSlots
import HandS.Text
import HandS.Deep
import PySem.Challenge.RW_caseshome_k09_rows_of_runs_and_their_sum
set_option Elab.async false
set_option linter.all false
set_option maxRecDepth 100000
set_option maxHeartbeats 4000000
/-! Rules of my own over the hand layer: a list that is told by a property alone, calls by keywords alone, // of any great ints. -/
namespace Pre
open PySem PySem.Spec PyProof.Rows L2

/-! ### a list of which a property is known, and no more: whoever changes it keeps the property -/
def LstX (a : Addr) (P : List V → Prop) : HO := .ext fun h => ∃ (xs : List V) (its : List Value) (n : Nat), P xs ∧ xs.length ≤ sizeLine ∧ Vals xs its ∧ h.get? a = some { cls := .type "list", data := .seq its.toArray n }
section
variable {X : Cx} {pins : List (Addr × Obj)} {σ : L2.St} {H : Hp} {s : Shared} {a : Addr} {P : List V → Prop} {xs : List V} {o : HO}
theorem redesc {ob : Obj} (I : Inv X pins σ H s) (mu : Mut (H a)) (hg : s.heap.get? a = some ob) (new : ObjOk X.prog X.w (upd H a o) s.heap a o) : Inv X pins σ (upd H a o) s :=
  I.write (e := a) (h' := s.heap) (t' := s.toks) mu (.inl rfl) (fun _ _ _ q => q) ⟨_, hg⟩ new
theorem open_inv (I : Inv X pins σ H s) (h : H a = some (LstX a P)) : ∃ xs, P xs ∧ xs.length ≤ sizeLine ∧ Inv X pins σ (upd H a (.lst xs)) s := by
  obtain ⟨⟨xs, its, n, p, hz, hv, hg⟩, _, _⟩ := I.hok a _ h
  refine ⟨xs, p, hz, redesc I ?_ hg ⟨hz, its, n, hv, hg⟩⟩
  rw [h]
  exact True.intro
theorem close_inv (I : Inv X pins σ H s) (h : H a = some (.lst xs)) (p : P xs) : Inv X pins σ (upd H a (LstX a P)) s := by
  obtain ⟨hz, its, n, hv, hg⟩ := I.hok a _ h
  refine redesc I ?_ hg ⟨⟨xs, its, n, p, hz, hv, hg⟩, ⟨_, hg⟩, fun h1 h2 ⟨xs, its, n, p, hz, hv, hg⟩ k => ⟨xs, its, n, p, hz, hv, k _ hg⟩⟩
  rw [h]
  exact True.intro
/-- ahead of a body: such a list is looked into -/
def tOpen (t : TS) : TS := fun D σ H => ∃ (a : Addr) (P : List V → Prop), H a = some (LstX a P) ∧ ∀ xs, P xs → xs.length ≤ sizeLine → t D σ (upd H a (.lst xs))
theorem pss_open {body : List Stmt} {t : TS} (h : PSs X body t) : PSs X body (tOpen t) := ⟨fun pins s σ H D I q => by
  obtain ⟨a, P, ha, k⟩ := q
  obtain ⟨xs, p, hz, I1⟩ := open_inv I ha
  exact h.run pins s σ _ D I1 (k xs p hz)⟩
/-- behind a value: the list is shut again -/
def tClose (te : TE) : TE := fun σ H Q => te σ H fun v H1 => ∃ (a : Addr) (P : List V → Prop) (xs : List V), H1 a = some (.lst xs) ∧ P xs ∧ Q v (upd H1 a (LstX a P))
theorem pe_close {e : Expr} {te : TE} (h : PE X e te) : PE X e (tClose te) := ⟨fun pins s σ H Q I q => thn (h.run pins s σ H _ I q) fun v s1 ⟨x, H1, I1, r, a, P, xs, hx, p, q⟩ => ⟨x, _, close_inv I1 hx p, r, q⟩⟩
end

/-! ### calls by keywords alone -/
section
variable {X : Cx} {CX : CXT} {k : Nat} {f : Addr} {fd : FuncData} {ps ks : List Str} {sp : Sp} {E : XK} {x : Str} {p pos : Pos} {kws : List Keyword} {tk : TA} {g : List Value → List Value → List Value} {gV : List V → List V → List V}
theorem pe_callK0 (F : FnOk X.prog X.w X.K X.mg X.base CX k f fd ps sp) (hr : Room k X.A) (hg : Gl X x) (hm : X.mg x = some (.ref f)) (hk : PySem.W.keepIn X.K (.ref f) = true) (hb : KBn X.K fd ps 0 ks g gV) (hx : Passes CX X E) (hkw : PK X kws tk)
    (hall : (backToKw pos (keywordEach kws X.env)).all (·.1.isSome) = true := by rfl) (hks : (backToKw pos (keywordEach kws X.env)).filterMap (·.1) = ks := by rfl) (hdb : (x == ("__debug__" : Str)) = false := by decide)
    (hpl : ((backTo pos (starEach [] X.env)).any (·.1) || (backToKw pos (keywordEach kws X.env)).any (·.1.isNone)) = false := by rfl) :
    PE X (.Call (.Name x p) [] kws pos) (tCallN 0 ks.length sp gV E tNil tk) := by
  refine ⟨fun pins s σ H Q I h => ?_⟩
  refine wpAny_Call_Name_kw (ld_glob I hg hm ?_ hdb)
  refine PySem.W.callWith_KW0 (h₀ := X.base) I.ok.mod.kin hk hall ?_ hpl
  refine thn (hkw.run pos pins s σ H _ I h) fun ws s2 ⟨zs, H2, I2, rz, l1, l2, q2⟩ => ⟨I2.kIn, ?_⟩
  rw [hks]
  exact run_fnN (us := []) (vs := []) F hr hb hx I2 .nil rz rfl l2 q2
end

/-! ### // of any ints (the divisor below 2 ^ 9000 in size) -/
def CDivG (_ j : Int) : Prop := j ≠ 0 ∧ j.natAbs.log2 < 9000
section
variable {X : Cx}
theorem op_fdivG : OpR X (binaryOp .FloorDiv) (rI CDivG fun i j => .int (i.fdiv j)) := opI fun i j _ _ _ _ _ hc q => floordiv_int hc.1 q (.inl (PyProof.noPylong_of_log2 hc.2))
end
theorem div_ok {i j : Int} {b : Nat} (h : j ≠ 0) (hb : j.natAbs < 2 ^ b) (h0 : 0 < b := by decide) (h9 : b ≤ 9000 := by decide) : CDivG i j := ⟨h, Nat.lt_of_lt_of_le (PySem.Flt.log2_lt_of h0 hb) h9⟩

/-! ### what stays -/
abbrev Ex := Evl.Ex
theorem ex_trk {H H1 H' : Hp} {p : Addr} {o o' : HO} (e : Ex H H1) (n : H p = none) : Ex H (upd H1 p o) := Evl.Ex.mut e n
theorem exg {H H' : Hp} {p : Addr} {o : HO} (e : Ex H H') (h : H p = some o) : H' p = some o := e p o h
theorem exl {K : PySem.W.Frag} {H H' : Hp} {a : Addr} {xs : List V} (e : Ex H H') (h : SqL K H a xs) : SqL K H' a xs := Evl.ex_l e h
theorem ext {K : PySem.W.Frag} {H H' : Hp} {a : Addr} {xs : List V} (e : Ex H H') (h : SqT K H a xs) : SqT K H' a xs := Evl.ex_t e h
theorem ex0 {H : Hp} : Ex H H := fun _ _ h => h
theorem exn {H : Hp} {p : Addr} {o : HO} (h : H p = none) : Ex H (upd H p o) := Evl.Ex.new h
theorem decI (a b : Int) : decide (V.int a = V.int b) = decide (a = b) := by
  by_cases h : a = b
  · rw [h]
    simp
  · rw [decide_eq_false h, decide_eq_false (fun q => h (V.int.inj q))]

/-! ### a list or a tuple, walked -/
/-- the value is a list, or a tuple, of these -/
def SqV (K : PySem.W.Frag) (H : Hp) (a : Addr) (xs : List V) : Prop := SqL K H a xs ∨ SqT K H a xs
theorem SqV.ex {K : PySem.W.Frag} {H H' : Hp} {a : Addr} {xs : List V} (h : SqV K H a xs) (e : Ex H H') : SqV K H' a xs := by
  rcases h with h | h
  · exact .inl (exl e h)
  · exact .inr (ext e h)
def iSeq (K : PySem.W.Frag) (tl : TE) : TI := fun σ H R => iList K tl σ H R ∨ iTup K tl σ H R
theorem pi_seq {X : Cx} {tg l : Expr} {tl : TE} (h : PE X l tl) : PI X tg l (iSeq X.K tl) := ⟨fun pins s σ H R I q => q.elim (fun q => (pi_list h).run pins s σ H R I q) (fun q => (pi_tup h).run pins s σ H R I q)⟩
/-- reads to a value, the heap as it is -/
def Rds (te : TE) (σ : L2.St) (H : Hp) (v : V) : Prop := ∀ Q : VK, Q v H → te σ H Q
theorem rds_var {σ : L2.St} {H : Hp} {i : Nat} {v : V} (h : σ[i]? = some (some v)) : Rds (tVar i) σ H v := fun _ q => ⟨v, h, q⟩
section
variable {K : PySem.W.Frag} {σ : L2.St} {H : Hp} {a : Addr} {xs : List V} {tl : TE} {g : TG} {tb : TS} {D : Ends}
/-- what a for asks of its walk -/
abbrev FK (g : TG) (tb : TS) (D : Ends) (σ : L2.St) : It → Hp → Prop := fun J H1 => ∃ W : Nat → Nat → L2.St → Hp → Prop, (∃ m, W 0 m σ H1) ∧ ∀ i m σ H, W i m σ H → (J.stop i H ∧ D.nx σ H) ∨ (J.go i H ∧ ∃ N : L2.St → Hp → Prop, (∀ σ' H', N σ' H' → ∃ m', m' < m ∧ W (i + 1) m' σ' H') ∧ ∀ x H', J.yld i H x H' → g x σ H' fun σ2 H2 => tb { D with nx := N, ct := N, bk := D.nx } σ2 H2)
theorem for_seq (hl : Rds tl σ H (.ref a)) (hx : SqV K H a xs) (Pv : Nat → L2.St → Hp → Prop) (h0 : Pv 0 σ H) (he : ∀ i σ' H', Pv i σ' H' → Ex H H')
    (hs : ∀ i x σ' H', xs[i]? = some x → Pv i σ' H' → g x σ' H' fun σ2 H2 => tb { D with nx := Pv (i + 1), ct := Pv (i + 1), bk := D.nx } σ2 H2) (hd : ∀ σ' H', Pv xs.length σ' H' → D.nx σ' H') :
    iList K tl σ H (FK g tb D σ) ∨ iTup K tl σ H (FK g tb D σ) := by
  rcases hx with hx | hx
  · exact .inl (hl _ ⟨a, rfl, ⟨xs, hx⟩, for_list Pv h0 (fun i σ' H' _ p => exl (he i σ' H' p) hx) hs hd⟩)
  · exact .inr (hl _ ⟨a, rfl, ⟨xs, hx⟩, for_tup Pv h0 (fun i σ' H' _ p => ext (he i σ' H' p) hx) hs hd⟩)
theorem for_lst (hl : Rds tl σ H (.ref a)) (hx : SqL K H a xs) (Pv : Nat → L2.St → Hp → Prop) (h0 : Pv 0 σ H) (he : ∀ i σ' H', Pv i σ' H' → Ex H H')
    (hs : ∀ i x σ' H', xs[i]? = some x → Pv i σ' H' → g x σ' H' fun σ2 H2 => tb { D with nx := Pv (i + 1), ct := Pv (i + 1), bk := D.nx } σ2 H2) (hd : ∀ σ' H', Pv xs.length σ' H' → D.nx σ' H') : tFor (iList K tl) g tb D σ H :=
  hl _ ⟨a, rfl, ⟨xs, hx⟩, for_list Pv h0 (fun i σ' H' _ p => exl (he i σ' H' p) hx) hs hd⟩

/-! ### comprehensions: what each turn gives, by a relation that stays while tuples stay -/
variable {tt : TT} {te : TE} {vs : List Nat} {Q : Addr → Hp → Prop}
/-- tuples stay -/
def ExT (H H' : Hp) : Prop := ∀ p ys, H p = some (.tup ys) → H' p = some (.tup ys)
theorem ExT.of {H H' : Hp} (e : Ex H H') : ExT H H' := fun p ys h => e p _ h
theorem ExT.lst {H : Hp} {p : Addr} {ys zs : List V} (h : H p = some (.lst ys)) : ExT H (upd H p (.lst zs)) := fun q us hq => by
  rw [upd_ne (ne_of hq h (by intro z; cases z))]
  exact hq
theorem ExT.trans {H H1 H2 : Hp} (a : ExT H H1) (b : ExT H1 H2) : ExT H H2 := fun p ys h => b p ys (a p ys h)
def Stays (R : Nat → V → Hp → Prop) : Prop := ∀ i y H H', ExT H H' → R i y H → R i y H'
/-- behind i turns: the list at Dl; if all turns give, one item each -/
structure Acc (H : Hp) (R : Nat → V → Hp → Prop) (all : Bool) (Dl : Addr) (i : Nat) (H' : Hp) : Prop where
  new : H Dl = none
  ex : Ex H H'
  at_ : ∃ ys : List V, H' Dl = some (.lst ys) ∧ ys.length ≤ i ∧ (all = true → ys.length = i) ∧ (∀ y, y ∈ ys → ∃ j, j < i ∧ R j y H') ∧ (all = true → ∀ j y, ys[j]? = some y → R j y H')
theorem Acc.start {R : Nat → V → Hp → Prop} {all : Bool} {Dl : Addr} (h : H Dl = none) : Acc H R all Dl 0 (upd H Dl (.lst [])) := by
  refine ⟨h, exn h, [], upd_same, Nat.le_refl _, fun _ => rfl, ?_, ?_⟩
  · intro y hy
    cases hy
  · intro _ j y hy
    cases hy
theorem Acc.give {R : Nat → V → Hp → Prop} {all : Bool} {Dl : Addr} {i : Nat} {H1 H4 : Hp} {y : V} (st : Stays R) (A : Acc H R all Dl i H1) (e : Ex H1 H4) (r : R i y H4) (hi : i < 1000) :
    ∃ acc, H4 Dl = some (.lst acc) ∧ acc.length < sizeLine ∧ Acc H R all Dl (i + 1) (upd H4 Dl (.lst (acc ++ [y]))) := by
  obtain ⟨new, ex, ys, h1, h2, h3, h4, h5⟩ := A
  have hD := e _ _ h1
  have x1 : ExT H4 (upd H4 Dl (.lst (ys ++ [y]))) := ExT.lst hD
  have x2 : ExT H1 (upd H4 Dl (.lst (ys ++ [y]))) := (ExT.of e).trans x1
  refine ⟨ys, hD, small1000 (by omega), new, Evl.Ex.mut (ex.trans e) new, ys ++ [y], upd_same, ?_, ?_, ?_, ?_⟩
  · rw [List.length_append]
    show ys.length + 1 ≤ i + 1
    omega
  · intro ha
    have := h3 ha
    rw [List.length_append]
    show ys.length + 1 = i + 1
    omega
  · intro z hz
    rcases List.mem_append.mp hz with q | q
    · obtain ⟨j, lt, rj⟩ := h4 z q
      exact ⟨j, by omega, st j z _ _ x2 rj⟩
    · rw [List.mem_singleton.mp q]
      exact ⟨i, by omega, st i y _ _ x1 r⟩
  · intro ha j z hz
    have hl := h3 ha
    by_cases hj : j < ys.length
    · rw [List.getElem?_append_left hj] at hz
      exact st j z _ _ x2 (h5 ha j z hz)
    · rw [List.getElem?_append_right (by omega)] at hz
      have hj0 : j - ys.length = 0 := by
        cases hq : j - ys.length with
        | zero => rfl
        | succ m =>
          rw [hq] at hz
          simp at hz
      rw [hj0] at hz
      have ez : y = z := Option.some.inj hz
      have ej : j = i := by omega
      rw [← ez, ej]
      exact st i y _ _ x1 r
theorem Acc.skip {R : Nat → V → Hp → Prop} {Dl : Addr} {i : Nat} {H1 H4 : Hp} (st : Stays R) (A : Acc H R false Dl i H1) (e : Ex H1 H4) : Acc H R false Dl (i + 1) H4 := by
  obtain ⟨new, ex, ys, h1, h2, h3, h4, h5⟩ := A
  refine ⟨new, ex.trans e, ys, e _ _ h1, by omega, fun q => (Bool.false_ne_true q).elim, ?_, fun q => (Bool.false_ne_true q).elim⟩
  intro z hz
  obtain ⟨j, lt, rj⟩ := h4 z hz
  exact ⟨j, by omega, st j z _ _ (ExT.of e) rj⟩
/-- what a comprehension has made -/
def Made (H : Hp) (R : Nat → V → Hp → Prop) (n : Nat) (Q : Addr → Hp → Prop) : Prop := ∀ (Dl : Addr) (H' : Hp) (ys : List V), H Dl = none → Ex H H' → H' Dl = some (.lst ys) → ys.length = n → (∀ (j : Nat) y, ys[j]? = some y → R j y H') → Q Dl H'
def Kept (H : Hp) (R : Nat → V → Hp → Prop) (n : Nat) (Q : Addr → Hp → Prop) : Prop := ∀ (Dl : Addr) (H' : Hp) (ys : List V), H Dl = none → Ex H H' → H' Dl = some (.lst ys) → ys.length ≤ n → (∀ y, y ∈ ys → ∃ j, j < n ∧ R j y H') → Q Dl H'
theorem Acc.made {R : Nat → V → Hp → Prop} {Dl : Addr} {n : Nat} {H1 : Hp} (A : Acc H R true Dl n H1) (k : Made H R n Q) : Q Dl H1 := by
  obtain ⟨new, ex, ys, h1, h2, h3, h4, h5⟩ := A
  exact k Dl H1 ys new ex h1 (h3 rfl) (h5 rfl)
theorem Acc.kept {R : Nat → V → Hp → Prop} {Dl : Addr} {n : Nat} {H1 : Hp} (A : Acc H R false Dl n H1) (k : Kept H R n Q) : Q Dl H1 := by
  obtain ⟨new, ex, ys, h1, h2, h3, h4, h5⟩ := A
  exact k Dl H1 ys new ex h1 h2 h4
theorem if_t {A B : Prop} : (if (true = true) then A else B) = A := if_pos rfl
/-- a turn that gives, told for any wish Y; a turn with a test, for any wishes Y and N -/
def Gives (g : TG) (te : TE) (vs : List Nat) (σ : L2.St) (x : V) (H1 : Hp) (R : V → Hp → Prop) : Prop :=
  ∀ Y : VK, (∀ y H4, Ex H1 H4 → R y H4 → Y y H4) → g x (wipe σ vs) H1 fun σ2 H2 => wipe σ2 vs = wipe σ vs ∧ te σ2 H2 Y
def Tests (g : TG) (tt : TT) (te : TE) (vs : List Nat) (σ : L2.St) (x : V) (H1 : Hp) (R : V → Hp → Prop) : Prop :=
  ∀ (Y : VK) (N : Hp → Prop), (∀ y H4, Ex H1 H4 → R y H4 → Y y H4) → (∀ H3, Ex H1 H3 → N H3) → g x (wipe σ vs) H1 fun σ2 H2 => wipe σ2 vs = wipe σ vs ∧ tt σ2 H2 fun b H3 => if b = true then te σ2 H3 Y else N H3
theorem Gives.tests {x : V} {H1 : Hp} {R : V → Hp → Prop} (h : Gives g te vs σ x H1 R) : Tests g tYes te vs σ x H1 R := fun Y N hy hn => by
  have e : (fun (σ2 : L2.St) (H2 : Hp) => wipe σ2 vs = wipe σ vs ∧ tYes σ2 H2 fun b H3 => if b = true then te σ2 H3 Y else N H3) = fun σ2 H2 => wipe σ2 vs = wipe σ vs ∧ te σ2 H2 Y := by
    funext σ2 H2
    exact congrArg (And (wipe σ2 vs = wipe σ vs)) (if_t (A := te σ2 H2 Y) (B := N H2))
  rw [e]
  exact h Y hy
theorem turn_of {R : Nat → V → Hp → Prop} {all : Bool} {Dl : Addr} {i : Nat} {x : V} {H1 : Hp} (st : Stays R) (A : Acc H R all Dl i H1) (hi : i < 1000) (hs : Tests g tt te vs σ x H1 (R i)) (hn : all = true → tt = tYes) :
    g x (wipe σ vs) H1 fun σ2 H2 => wipe σ2 vs = wipe σ vs ∧ tt σ2 H2 fun b H3 => if b = true then te σ2 H3 fun y H4 => ∃ acc, H4 Dl = some (.lst acc) ∧ acc.length < sizeLine ∧ Acc H R all Dl (i + 1) (upd H4 Dl (.lst (acc ++ [y]))) else Acc H R all Dl (i + 1) H3 := by
  cases all with
  | false => exact hs _ _ (fun y H4 e r => A.give st e r hi) (fun H3 e => A.skip st e)
  | true =>
    have ht := hn rfl
    subst ht
    have q := hs (fun y H4 => ∃ acc, H4 Dl = some (.lst acc) ∧ acc.length < sizeLine ∧ Acc H R true Dl (i + 1) (upd H4 Dl (.lst (acc ++ [y])))) (fun _ => True) (fun y H4 e r => A.give st e r hi) (fun _ _ => True.intro)
    have e : ∀ N : Hp → Prop, (fun (σ2 : L2.St) (H2 : Hp) => wipe σ2 vs = wipe σ vs ∧ tYes σ2 H2 fun b H3 => if b = true then te σ2 H3 fun y H4 => ∃ acc, H4 Dl = some (.lst acc) ∧ acc.length < sizeLine ∧ Acc H R true Dl (i + 1) (upd H4 Dl (.lst (acc ++ [y]))) else N H3) = fun σ2 H2 => wipe σ2 vs = wipe σ vs ∧ te σ2 H2 fun y H4 => ∃ acc, H4 Dl = some (.lst acc) ∧ acc.length < sizeLine ∧ Acc H R true Dl (i + 1) (upd H4 Dl (.lst (acc ++ [y]))) := fun N => by
      funext σ2 H2
      exact congrArg (And (wipe σ2 vs = wipe σ vs)) (if_t (B := N H2))
    rw [e]
    rw [e] at q
    exact q
section
variable {R : Nat → V → Hp → Prop}
/-- what is wanted of the list made at Dl -/
def MadeAt (H : Hp) (R : Nat → V → Hp → Prop) (n : Nat) (Dl : Addr) (Qd : Hp → Prop) : Prop := ∀ (H' : Hp) (ys : List V), Ex H H' → H' Dl = some (.lst ys) → ys.length = n → (∀ (j : Nat) y, ys[j]? = some y → R j y H') → Qd H'
def KeptAt (H : Hp) (R : Nat → V → Hp → Prop) (n : Nat) (Dl : Addr) (Qd : Hp → Prop) : Prop := ∀ (H' : Hp) (ys : List V), Ex H H' → H' Dl = some (.lst ys) → ys.length ≤ n → (∀ y, y ∈ ys → ∃ j, j < n ∧ R j y H') → Qd H'
theorem Acc.madeAt {R : Nat → V → Hp → Prop} {Dl : Addr} {n : Nat} {H1 : Hp} {Qd : Hp → Prop} (A : Acc H R true Dl n H1) (k : MadeAt H R n Dl Qd) : Qd H1 := by
  obtain ⟨new, ex, ys, h1, h2, h3, h4, h5⟩ := A
  exact k H1 ys ex h1 (h3 rfl) (h5 rfl)
theorem Acc.keptAt {R : Nat → V → Hp → Prop} {Dl : Addr} {n : Nat} {H1 : Hp} {Qd : Hp → Prop} (A : Acc H R false Dl n H1) (k : KeptAt H R n Dl Qd) : Qd H1 := by
  obtain ⟨new, ex, ys, h1, h2, h3, h4, h5⟩ := A
  exact k H1 ys ex h1 h2 h4
variable {Qd : Hp → Prop}
def made_range {lo : Int} {n : Nat} (st : Stays R) (hn : n ≤ 1000) (hs : ∀ i H1, i < n → Ex H H1 → Gives g te vs σ (.int (lo + i)) H1 (R i)) {Dl : Addr} (hD : H Dl = none) (k : MadeAt H R n Dl Qd) :=
  lc_range (lo := lo) (n := n) (g := g) (tt := tYes) (te := te) (vs := vs) (σ := σ) (H1 := H) (D := Dl) (Qd := Qd) (Acc H R true Dl) (Acc.start hD) (fun i H1 hi A => turn_of st A (by omega) (hs i H1 hi A.ex).tests fun _ => rfl) (fun _ A => A.madeAt k)
def made_list (st : Stays R) (hx : SqL K H a xs) (hn : xs.length ≤ 1000) (hs : ∀ i x H1, xs[i]? = some x → Ex H H1 → Gives g te vs σ x H1 (R i)) {Dl : Addr} (hD : H Dl = none) (k : MadeAt H R xs.length Dl Qd) :=
  lc_list (K := K) (a := a) (xs := xs) (g := g) (tt := tYes) (te := te) (vs := vs) (σ := σ) (H1 := H) (D := Dl) (Qd := Qd) (Acc H R true Dl) (Acc.start hD) (fun _ _ _ A => exl A.ex hx) (fun i x H1 hi A => turn_of st A (by have := (List.getElem?_eq_some_iff.mp hi).1; omega) (hs i x H1 hi A.ex).tests fun _ => rfl) (fun _ A => A.madeAt k)
def made_tup (st : Stays R) (hx : SqT K H a xs) (hn : xs.length ≤ 1000) (hs : ∀ i x H1, xs[i]? = some x → Ex H H1 → Gives g te vs σ x H1 (R i)) {Dl : Addr} (hD : H Dl = none) (k : MadeAt H R xs.length Dl Qd) :=
  lc_tup (K := K) (a := a) (xs := xs) (g := g) (tt := tYes) (te := te) (vs := vs) (σ := σ) (H1 := H) (D := Dl) (Qd := Qd) (Acc H R true Dl) (Acc.start hD) (fun _ _ _ A => ext A.ex hx) (fun i x H1 hi A => turn_of st A (by have := (List.getElem?_eq_some_iff.mp hi).1; omega) (hs i x H1 hi A.ex).tests fun _ => rfl) (fun _ A => A.madeAt k)
def kept_range {lo : Int} {n : Nat} (st : Stays R) (hn : n ≤ 1000) (hs : ∀ i H1, i < n → Ex H H1 → Tests g tt te vs σ (.int (lo + i)) H1 (R i)) {Dl : Addr} (hD : H Dl = none) (k : KeptAt H R n Dl Qd) :=
  lc_range (lo := lo) (n := n) (g := g) (tt := tt) (te := te) (vs := vs) (σ := σ) (H1 := H) (D := Dl) (Qd := Qd) (Acc H R false Dl) (Acc.start hD) (fun i H1 hi A => turn_of st A (by omega) (hs i H1 hi A.ex) fun q => (Bool.false_ne_true q).elim) (fun _ A => A.keptAt k)
def kept_list (st : Stays R) (hx : SqL K H a xs) (hn : xs.length ≤ 1000) (hs : ∀ i x H1, xs[i]? = some x → Ex H H1 → Tests g tt te vs σ x H1 (R i)) {Dl : Addr} (hD : H Dl = none) (k : KeptAt H R xs.length Dl Qd) :=
  lc_list (K := K) (a := a) (xs := xs) (g := g) (tt := tt) (te := te) (vs := vs) (σ := σ) (H1 := H) (D := Dl) (Qd := Qd) (Acc H R false Dl) (Acc.start hD) (fun _ _ _ A => exl A.ex hx) (fun i x H1 hi A => turn_of st A (by have := (List.getElem?_eq_some_iff.mp hi).1; omega) (hs i x H1 hi A.ex) fun q => (Bool.false_ne_true q).elim) (fun _ A => A.keptAt k)
/-- what a comprehension asks of its walk -/
abbrev LK (g : TG) (te : TE) (vs : List Nat) (σ : L2.St) (Q : Addr → Hp → Prop) : It → Hp → Prop := fun J H1 => ∀ D, H1 D = none → ∃ W : Nat → Nat → Hp → Prop, (∃ m, W 0 m (upd H1 D (.lst []))) ∧ ∀ i m H, W i m H →
  (J.stop i H ∧ Q D H) ∨ (J.go i H ∧ ∃ Nx : Hp → Prop, (∀ H', Nx H' → ∃ m', m' < m ∧ W (i + 1) m' H') ∧ ∀ x H', J.yld i H x H' → g x (wipe σ vs) H' fun σ2 H2 => wipe σ2 vs = wipe σ vs ∧ tYes σ2 H2 fun b H3 =>
    if b = true then te σ2 H3 fun y H4 => ∃ acc, H4 D = some (.lst acc) ∧ acc.length < sizeLine ∧ Nx (upd H4 D (.lst (acc ++ [y]))) else Nx H3)
theorem made_seq {tl : TE} (hl : Rds tl σ H (.ref a)) (st : Stays R) (hx : SqV K H a xs) (hn : xs.length ≤ 1000) (hs : ∀ i x H1, xs[i]? = some x → Ex H H1 → Gives g te vs σ x H1 (R i)) (k : Made H R xs.length Q) :
    iList K tl σ H (LK g te vs σ Q) ∨ iTup K tl σ H (LK g te vs σ Q) := by
  rcases hx with hx | hx
  · exact .inl (hl _ ⟨a, rfl, ⟨xs, hx⟩, fun Dl hD => made_list st hx hn hs hD fun H' ys e h1 h2 h3 => k Dl H' ys hD e h1 h2 h3⟩)
  · exact .inr (hl _ ⟨a, rfl, ⟨xs, hx⟩, fun Dl hD => made_tup st hx hn hs hD fun H' ys e h1 h2 h3 => k Dl H' ys hD e h1 h2 h3⟩)
end
end

/-! ### sizes -/
/-- the size of an int -/
def Sz (n : Nat) (i : Int) : Prop := i.natAbs < 2 ^ n
theorem Sz.mono {m n : Nat} {i : Int} (h : Sz m i) (k : m ≤ n) : Sz n i := Nat.lt_of_lt_of_le h (Nat.pow_le_pow_right (by decide) k)
theorem Sz.mul {m n : Nat} {i j : Int} (h : Sz m i) (k : Sz n j) : Sz (m + n) (i * j) := by
  unfold Sz
  rw [Int.natAbs_mul, Nat.pow_add]
  exact Nat.mul_lt_mul'' h k
theorem Sz.add {m n : Nat} {i j : Int} (h : Sz m i) (k : Sz n j) : Sz (max m n + 1) (i + j) := by
  have e : (i + j).natAbs ≤ i.natAbs + j.natAbs := Int.natAbs_add_le i j
  have h' : i.natAbs < 2 ^ (max m n) := h.mono (Nat.le_max_left _ _)
  have k' : j.natAbs < 2 ^ (max m n) := k.mono (Nat.le_max_right _ _)
  unfold Sz
  rw [Nat.pow_succ]
  omega
theorem Sz.neg {n : Nat} {i : Int} (h : Sz n i) : Sz n (-i) := by
  unfold Sz
  rw [Int.natAbs_neg]
  exact h
theorem Sz.sub {m n : Nat} {i j : Int} (h : Sz m i) (k : Sz n j) : Sz (max m n + 1) (i - j) := by
  have e : i - j = i + -j := Int.sub_eq_add_neg
  rw [e]
  exact h.add k.neg
theorem Sz.le {n : Nat} {i j : Int} (h : Sz n j) (k : i.natAbs ≤ j.natAbs) : Sz n i := Nat.lt_of_le_of_lt k h
theorem Sz.lt {n : Nat} {i : Int} {b : Int} (h0 : 0 ≤ i) (h : i < b) (hb : b ≤ ((2 ^ n : Nat) : Int)) : Sz n i := by
  unfold Sz
  omega
theorem mul_ok {m n : Nat} {i j : Int} (h : Sz m i) (k : Sz n j) (h0 : 0 < m := by decide) (h1 : 0 < n := by decide) (hm : m + n ≤ 1000000 := by decide) : CMulW i j := wide_mul h k h0 h1 hm
theorem mul_okE {m n : Nat} {i j : Int} (h : Sz m i) (k : Sz n j) (h0 : 0 < m) (h1 : 0 < n) (hm : m + n ≤ 1000000) : CMulW i j := wide_mul h k h0 h1 hm
theorem fdiv_okE {n : Nat} {i j : Int} (h : j ≠ 0) (k : Sz n j) (h0 : 0 < n) (hn : n ≤ 9000) : CDivG i j := div_ok h k h0 hn
theorem fdiv_ok {n : Nat} {i j : Int} (h : j ≠ 0) (k : Sz n j) (h0 : 0 < n := by decide) (hn : n ≤ 9000 := by decide) : CDivG i j := div_ok h k h0 hn

/-! ### draws: a list of a list of numbers and a number -/
def DIn : List V → Prop := fun xs => ∃ ns : List Int, xs = ns.map V.int ∧ (∀ n, n ∈ ns → 0 ≤ n) ∧ ns.length ≤ 63
def DOut (l : Addr) : List V → Prop := fun xs => ∃ b : Int, xs = [.ref l, .int b] ∧ 0 ≤ b ∧ b < 2147483647
def DrawsAt (H : Hp) (d : Addr) : Prop := ∃ l, d ≠ l ∧ H d = some (LstX d (DOut l)) ∧ H l = some (LstX l DIn)
theorem DrawsAt.ex {H H' : Hp} {d : Addr} (h : DrawsAt H d) (e : Ex H H') : DrawsAt H' d := by
  obtain ⟨l, n, h1, h2⟩ := h
  exact ⟨l, n, e _ _ h1, e _ _ h2⟩
/-- inside: the outer list, the inner one, all else as it was -/
structure Sd (H : Hp) (d l : Addr) (ns : List Int) (b : Int) (H1 : Hp) : Prop where
  hd : H1 d = some (.lst [.ref l, .int b])
  hl : H1 l = some (.lst (ns.map V.int))
  b0 : 0 ≤ b
  b1 : b < 2147483647
  n0 : ∀ n, n ∈ ns → 0 ≤ n
  nl : ns.length ≤ 63
  kp : ∀ x o, H x = some o → x ≠ d → x ≠ l → H1 x = some o
theorem Sd.nil {H : Hp} {d l : Addr} (h : DrawsAt H d) : True := True.intro
theorem Sd.new {H H1 : Hp} {d l : Addr} {ns : List Int} {b : Int} {p : Addr} {o : HO} (S : Sd H d l ns b H1) (np : H1 p = none) : Sd H d l ns b (upd H1 p o) := by
  obtain ⟨hd, hl, b0, b1, n0, nl, kp⟩ := S
  exact ⟨exn np _ _ hd, exn np _ _ hl, b0, b1, n0, nl, fun x o h a b => exn np _ _ (kp x o h a b)⟩
theorem Sd.inner {H H1 : Hp} {d l : Addr} {ns ms : List Int} {b : Int} (S : Sd H d l ns b H1) (hdl : d ≠ l) (m0 : ∀ n, n ∈ ms → 0 ≤ n) (ml : ms.length ≤ 63) : Sd H d l ms b (upd H1 l (.lst (ms.map V.int))) := by
  obtain ⟨hd, hl, b0, b1, n0, nl, kp⟩ := S
  exact ⟨by rw [upd_ne hdl]; exact hd, upd_same, b0, b1, m0, ml, fun x o h a b => by rw [upd_ne b]; exact kp x o h a b⟩
theorem Sd.outer {H H1 : Hp} {d l : Addr} {ns : List Int} {b c : Int} (S : Sd H d l ns b H1) (hdl : d ≠ l) (c0 : 0 ≤ c) (c1 : c < 2147483647) : Sd H d l ns c (upd H1 d (.lst [.ref l, .int c])) := by
  obtain ⟨hd, hl, b0, b1, n0, nl, kp⟩ := S
  exact ⟨upd_same, by rw [upd_ne hdl.symm]; exact hl, c0, c1, n0, nl, fun x o h a b => by rw [upd_ne a]; exact kp x o h a b⟩
/-- shut again: nothing is seen to have changed -/
theorem Sd.shut {H H1 : Hp} {d l : Addr} {ns : List Int} {b : Int} (S : Sd H d l ns b H1) (hdl : d ≠ l) (h1 : H d = some (LstX d (DOut l))) (h2 : H l = some (LstX l DIn)) : Ex H (upd (upd H1 l (LstX l DIn)) d (LstX d (DOut l))) := fun x o h => by
  by_cases e : x = d
  · subst e
    rw [upd_same, ← h, h1]
  · rw [upd_ne e]
    by_cases e2 : x = l
    · subst e2
      rw [upd_same, ← h, h2]
    · rw [upd_ne e2]
      exact S.kp x o h e e2
theorem DIn.of {ns : List Int} (n0 : ∀ n, n ∈ ns → 0 ≤ n) (nl : ns.length ≤ 63) : DIn (ns.map V.int) := ⟨ns, rfl, n0, nl⟩

/-! ### data: numbers -/
theorem lay_ints : ∀ ns : List Int, PyData.canLayAll0 (ns.map PyData.int) = true
  | [] => by simp [PyData.canLayAll0]
  | n :: ns => by simp [PyData.canLayAll0, PyData.canLay0, lay_ints ns]
theorem depth_ints : ∀ ns : List Int, PyData.depthAll (ns.map PyData.int) = 0
  | [] => by simp [PyData.depthAll]
  | n :: ns => by simp [PyData.depthAll, PyData.depth, depth_ints ns]
theorem shaped_ints (ns : List Int) : SeqAt.shaped (.list (ns.map PyData.int)) = true := by
  show (PyData.canLay0 (.list (ns.map PyData.int)) && decide (PyData.depth (.list (ns.map PyData.int)) ≤ 64)) = true
  rw [Bool.and_eq_true]
  refine ⟨by simp only [PyData.canLay0]; exact lay_ints ns, decide_eq_true ?_⟩
  simp only [PyData.depth, depth_ints ns]
  decide
theorem dp_ints {K : PySem.W.Frag} {H : Hp} : ∀ ns : List Int, DpAll K H (ns.map V.int) (ns.map PyData.int)
  | [] => .nil
  | n :: ns => .cons (.int n) (dp_ints ns)
theorem eqv_nil (ns : List Int) : PyData.eqv (.list (ns.map PyData.int)) (.list []) = ns.isEmpty := by
  cases ns <;> simp [PyData.eqv, PyData.eqvAll]
theorem eqvAll_ints : ∀ ns : List Int, PyData.eqvAll (ns.map PyData.int) (ns.map PyData.int) = true
  | [] => by simp [PyData.eqvAll]
  | n :: ns => by simp [PyData.eqvAll, PyData.eqv, eqvAll_ints ns]
theorem eqv_ints (ns : List Int) : PyData.eqv (.list (ns.map PyData.int)) (.list (ns.map PyData.int)) = true := by
  simp only [PyData.eqv]
  exact eqvAll_ints ns
theorem atI0 {x : V} {xs : List V} : atI (x :: xs) 0 = some x := atI_nat (j := 0) rfl
theorem last_int {ns : List Int} (h : ns ≠ []) : ∃ n, n ∈ ns ∧ atI (ns.map V.int) (-1) = some (.int n) ∧ (ns.map V.int)[(ns.map V.int).length - 1]? = some (.int n) ∧ ns = ns.dropLast ++ [n] := by
  have e : ns = ns.dropLast ++ [ns.getLast h] := (List.dropLast_concat_getLast h).symm
  refine ⟨ns.getLast h, List.getLast_mem h, ?_, ?_, e⟩
  · have e2 : ns.map V.int = ns.dropLast.map V.int ++ [V.int (ns.getLast h)] := by
      rw [← List.map_singleton, ← List.map_append, ← e]
    rw [e2]
    exact atI_last _ _
  · rw [List.length_map, List.getElem?_map, ← List.getLast?_eq_getElem?, List.getLast?_eq_getLast h]
    rfl
/-! ### isinstance -/
theorem kit_t {K : PySem.W.Frag} {H : Hp} {x : V} {t : String} {Q : VK} (ty : TyOf K H x (.type t)) (n : String) (b : Bool) (h : kitB t n = some b) (q : Q (.bl b) H) : rIsi K [x, .ty n] H Q :=
  ⟨x, .ty n, .type t, .type n, b, rfl, .ty n, .base ty, kit_ty h, q⟩
/-! ### data: pairs of numbers in tuples -/
def pairD (f : Int × Int) : PyData := .tuple [.int f.1, .int f.2]
theorem lay_pairs : ∀ fs : List (Int × Int), PyData.canLayAll0 (fs.map pairD) = true
  | [] => by simp [PyData.canLayAll0]
  | f :: fs => by simp [PyData.canLayAll0, PyData.canLay0, pairD, lay_pairs fs]
theorem depth_pairs : ∀ fs : List (Int × Int), PyData.depthAll (fs.map pairD) ≤ 1
  | [] => by simp [PyData.depthAll]
  | f :: fs => by
    have h := depth_pairs fs
    simp only [List.map_cons, PyData.depthAll, pairD, PyData.depth]
    omega
theorem shaped_pairs (fs : List (Int × Int)) : SeqAt.shaped (.list (fs.map pairD)) = true := by
  have h := depth_pairs fs
  have h2 : PyData.depth (.list (fs.map pairD)) ≤ 64 := by
    simp only [PyData.depth]
    omega
  show (PyData.canLay0 (.list (fs.map pairD)) && decide (PyData.depth (.list (fs.map pairD)) ≤ 64)) = true
  rw [Bool.and_eq_true]
  exact ⟨by simp only [PyData.canLay0]; exact lay_pairs fs, decide_eq_true h2⟩
theorem eqvAll_pairs : ∀ fs : List (Int × Int), PyData.eqvAll (fs.map pairD) (fs.map pairD) = true
  | [] => by simp [PyData.eqvAll]
  | f :: fs => by simp [PyData.eqvAll, PyData.eqv, pairD, eqvAll_pairs fs]
theorem eqv_pairs (fs : List (Int × Int)) : PyData.eqv (.list (fs.map pairD)) (.list (fs.map pairD)) = true := by
  simp only [PyData.eqv]
  exact eqvAll_pairs fs
theorem dp_pairs {K : PySem.W.Frag} {H : Hp} : ∀ {xs : List V} {fs : List (Int × Int)}, xs.length = fs.length → (∀ (i : Nat) x f, xs[i]? = some x → fs[i]? = some f → ∃ p, x = .ref p ∧ H p = some (.tup [.int f.1, .int f.2])) → DpAll K H xs (fs.map pairD)
  | [], [], _, _ => .nil
  | x :: xs, f :: fs, hl, h => by
    obtain ⟨p, e, hp⟩ := h 0 x f rfl rfl
    subst e
    exact .cons (.tup (SqT.of hp) (.cons (.int _) (.cons (.int _) .nil))) (dp_pairs (Nat.succ.inj hl) fun i x g a b => h (i + 1) x g a b)
/-! ### slices from and to the last one -/
theorem cut_init (xs : List V) : cutV xs none (some (-1)) = xs.dropLast := by
  unfold cutV
  rw [HT.sIx_none]
  have e : HT.sIx xs.length xs.length (some (-1)) = xs.length - 1 := by
    show (if (-1 : Int) < 0 then ((-1 : Int) + (xs.length : Int)).toNat else min (-1 : Int).toNat xs.length) = xs.length - 1
    rw [if_pos (by decide)]
    omega
  rw [e, List.drop_zero, Nat.sub_zero, List.dropLast_eq_take]
theorem cut_last {xs : List V} {x : V} : cutV (xs ++ [x]) (some (-1)) none = [x] := by
  unfold cutV
  rw [HT.sIx_none]
  have e : HT.sIx (xs ++ [x]).length 0 (some (-1)) = xs.length := by
    show (if (-1 : Int) < 0 then ((-1 : Int) + ((xs ++ [x]).length : Int)).toNat else min (-1 : Int).toNat (xs ++ [x]).length) = xs.length
    rw [if_pos (by decide), List.length_append]
    show ((-1 : Int) + ((xs.length + 1 : Nat) : Int)).toNat = xs.length
    omega
  rw [e, List.drop_append_of_le_length (Nat.le_refl _), List.drop_length, List.length_append]
  show List.take (xs.length + 1 - xs.length) ([] ++ [x]) = [x]
  rw [Nat.add_sub_cancel_left]
  rfl
end Pre
set_option maxRecDepth 100000
set_option maxHeartbeats 4000000
/-! zip over two sequences, each of them a list or a tuple (k: true a list). -/
namespace Pre
open PySem PySem.Spec PyProof.Rows L2
def SqB (k : Bool) (K : PySem.W.Frag) (H : Hp) (a : Addr) (xs : List V) : Prop := if k = true then SqL K H a xs else SqT K H a xs
def PlB (k : Bool) (h : Heap) (a : Addr) (its : Array Value) : Prop := if k = true then h.IsList a its else h.IsTuple a its
def ItB (k : Bool) (h : Heap) (it a : Addr) (i : Nat) : Prop := if k = true then h.IsListIter it a i else h.IsTupleIter it a i
def obB (k : Bool) (a : Addr) : Obj := { cls := .type (if k = true then "list_iterator" else "tuple_iterator"), data := .fields #[.ref a, .int 0 0] }
theorem SqB.ex {k : Bool} {K : PySem.W.Frag} {H H' : Hp} {a : Addr} {xs : List V} (h : SqB k K H a xs) (e : Ex H H') : SqB k K H' a xs := by
  cases k
  · exact ext (K := K) e h
  · exact exl (K := K) e h
theorem sqB_of {K : PySem.W.Frag} {H : Hp} {a : Addr} {xs : List V} (h : SqV K H a xs) : ∃ k, SqB k K H a xs := by
  rcases h with h | h
  · exact ⟨true, h⟩
  · exact ⟨false, h⟩
section
variable {X : Cx} {pins : List (Addr × Obj)} {σ : L2.St} {H : Hp} {s : Shared} {k : Bool} {a : Addr} {xs ys : List V}
theorem sqB_pl (I : Inv X pins σ H s) (h : SqB k X.K H a xs) : ∃ its : List Value, Vals xs its ∧ PlB k s.heap a its.toArray ∧ a < s.heap.objs.size := by
  cases k
  · obtain ⟨its, r, p, _⟩ := I.tuple (show SqT X.K H a xs from h)
    exact ⟨its, r, p, p.lt⟩
  · obtain ⟨its, r, p, _⟩ := I.list (show SqL X.K H a xs from h)
    exact ⟨its, r, p.isList, p.lt⟩
theorem sqB_inj (I : Inv X pins σ H s) (h : SqB k X.K H a xs) (h' : SqB k X.K H a ys) : xs = ys := by
  cases k
  · exact I.tuple_inj (show SqT X.K H a xs from h) h'
  · exact I.list_inj (show SqL X.K H a xs from h) h'
end
theorem drawsB {prog : Program} {w : World} {A : Around} (hh : A.handled = none) (k : Bool) (it a : Addr) (hne : a ≠ it) (its : Array Value) :
    Draws prog w A it [it, a] its.size (fun i v => its[i]? = some v) (fun i h => ItB k h it a i ∧ PlB k h a its) := by
  cases k
  · exact Draws.tuple hh it a hne its
  · exact Draws.list hh it a hne its
theorem beginsB (k : Bool) (a : Addr) (its : Array Value) : Begins (.ref a) (obB k a) (fun h => PlB k h a its) := by
  cases k
  · exact begins_tuple a its
  · exact begins_list a its
theorem ItB.start {k : Bool} {h : Heap} {it a : Addr} (e : h.get? it = some (obB k a)) : ItB k h it a 0 := by
  cases k
  · exact ⟨_, e, rfl, rfl⟩
  · exact ⟨_, e, rfl, rfl⟩
theorem ItB.look {k : Bool} {h : Heap} {it a : Addr} {i : Nat} (st : ItB k h it a i) : ∃ o, h.get? it = some o ∧ ∀ v, o.data ≠ .cell v := by
  cases k
  · obtain ⟨o, e, _, d⟩ := (show h.IsTupleIter it a i from st)
    exact ⟨o, e, fun v q => by rw [d] at q; cases q⟩
  · obtain ⟨o, e, _, d⟩ := (show h.IsListIter it a i from st)
    exact ⟨o, e, fun v q => by rw [d] at q; cases q⟩
theorem ItB.stay {k : Bool} {h h' : Heap} {it a : Addr} {i : Nat} (st : ItB k h it a i) (kp : ∀ o, h.get? it = some o → h'.get? it = some o) : ItB k h' it a i := by
  cases k
  · exact (show h.IsTupleIter it a i from st).at kp
  · exact (show h.IsListIter it a i from st).at kp

/-- the two sequences as they stand at each turn, their items in new pairs -/
def Itm (k1 k2 : Bool) (K : PySem.W.Frag) (a b : Addr) : It where
  go := fun i H => ∃ (xs ys : List V) (x y : V), SqB k1 K H a xs ∧ SqB k2 K H b ys ∧ xs[i]? = some x ∧ ys[i]? = some y
  yld := fun i H v H' => ∃ T x y, v = .ref T ∧ H T = none ∧ H' = upd H T (.tup [x, y]) ∧ (∀ xs, SqB k1 K H a xs → xs[i]? = some x) ∧ ∀ ys, SqB k2 K H b ys → ys[i]? = some y
  stop := fun i H => ∃ xs ys : List V, SqB k1 K H a xs ∧ SqB k2 K H b ys ∧ i ≤ xs.length ∧ i ≤ ys.length ∧ (i = xs.length ∨ i = ys.length)
/-- the zip's state ahead of turn i -/
structure Zst (k1 k2 : Bool) (a b z TI TO i1 i2 : Addr) (i : Nat) (h : Heap) : Prop where
  zip : IsZip h z TI TO .none
  its : IsTupOf2 h TI (.ref i1) (.ref i2)
  out : ∃ x y, IsTupOf2 h TO x y
  one : ItB k1 h i1 a i
  two : ItB k2 h i2 b i
/-- five addresses side by side behind a and b -/
structure Side (n a b z TI TO i1 i2 : Addr) : Prop where
  ha : a < n
  hb : b < n
  e1 : i1 = n
  e2 : i2 = n + 1
  eI : TI = n + 2
  eO : TO = n + 3
  ez : z = n + 4
theorem aparts {x y : Nat} (h : ¬ x = y) : x ≠ y := h
theorem notIn2 {c x y : Nat} (h1 : c ≠ x) (h2 : c ≠ y) : c ∉ [x, y] := fun h => by
  rcases List.mem_cons.mp h with e | e
  · exact h1 e
  · exact h2 (List.mem_singleton.mp e)
theorem sep_of (n a b : Nat) (ha : a < n) (hb : b < n) : ZipSep2 (n + 4) (n + 2) (n + 3) n (n + 1) [n, a] [n + 1, b] where
  TIz := aparts (by omega)
  TOz := aparts (by omega)
  TITO := aparts (by omega)
  TIi1 := aparts (by omega)
  mem1 := List.mem_cons_self ..
  zf1 := notIn2 (by omega) (by omega)
  Tf1 := notIn2 (by omega) (by omega)
  TIi2 := aparts (by omega)
  mem2 := List.mem_cons_self ..
  zf2 := notIn2 (by omega) (by omega)
  Tf2 := notIn2 (by omega) (by omega)
  sep1_2 := notIn2 (by omega) (by omega)
  sep2_1 := notIn2 (by omega) (by omega)
theorem Side.sep {n a b z TI TO i1 i2 : Addr} (S : Side n a b z TI TO i1 i2) : ZipSep2 z TI TO i1 i2 [i1, a] [i2, b] := by
  obtain ⟨ha, hb, rfl, rfl, rfl, rfl, rfl⟩ := S
  exact sep_of i1 a b ha hb
section
variable {P : Program} {w : World} {K : PySem.W.Frag} {elts : List Expr} {kk : Nat} {tpos : Pos} {k1 k2 : Bool} {n a b z TI TO i1 i2 : Addr}
theorem five {c : Addr} (hc : c ∈ [z, TI, TO, i1, i2]) : c = z ∨ c = TI ∨ c = TO ∨ c = i1 ∨ c = i2 := by simpa using hc
theorem Zst.at {i : Nat} {hp : Heap} (st : Zst k1 k2 a b z TI TO i1 i2 i hp) {c : Addr} (hc : c ∈ [z, TI, TO, i1, i2]) : ∃ o, hp.get? c = some o ∧ ∀ v, o.data ≠ .cell v := by
  obtain ⟨hz, hI, ⟨x, y, hO⟩, h1, h2⟩ := st
  rcases five hc with q | q | q | q | q <;> subst q
  · exact ⟨_, hz, fun v q => nomatch q⟩
  · exact ⟨_, hI, fun v q => nomatch q⟩
  · exact ⟨_, hO, fun v q => nomatch q⟩
  · exact h1.look
  · exact h2.look
theorem turn_zipM (S : Side n a b z TI TO i1 i2) : Turn P w K (.Tuple elts kk tpos) (Itm k1 k2 K a b) [z, TI, TO, i1, i2] z (Zst k1 k2 a b z TI TO i1 i2) where
  mem := List.mem_cons_self ..
  obj := fun i h st c hc => st.at hc
  keep := fun i h h' st kp => by
    obtain ⟨hz, hI, ⟨x, y, hO⟩, h1, h2⟩ := st
    exact ⟨kp z (by simp) _ hz, kp TI (by simp) _ hI, ⟨x, y, kp TO (by simp) _ hO⟩, h1.stay fun o q => kp i1 (by simp) o q, h2.stay fun o q => kp i2 (by simp) o q⟩
  item := fun X hP hw hK hc i pins s σ H E I hf st hg => by
    subst hP hw hK
    have D := S.sep
    obtain ⟨xs, ys, x, y, qx, qy, ex, ey⟩ := hg
    obtain ⟨its, r1, p1, _⟩ := sqB_pl I qx
    obtain ⟨jts, r2, p2, _⟩ := sqB_pl I qy
    obtain ⟨u, hu, ru⟩ := r1.get ex
    obtain ⟨v, hv, rv⟩ := r2.get ey
    obtain ⟨hz, hI, ⟨x0, y0, hO⟩, h1, h2⟩ := st
    have hzl : z < s.heap.objs.size := Heap.lt_size hz
    have na : a ≠ i1 := by
      have h := S.ha
      rw [S.e1]
      exact Nat.ne_of_lt h
    have nb : b ≠ i2 := by
      have h := S.hb
      rw [S.e2]
      exact Nat.ne_of_lt (Nat.lt_succ_of_lt h)
    have hh : X.A.in1.handled = none := I.ok.hd hc
    have l1 : i < its.toArray.size := by
      have := (List.getElem?_eq_some_iff.mp hu).1
      simpa using this
    have l2 : i < jts.toArray.size := by
      have := (List.getElem?_eq_some_iff.mp hv).1
      simpa using this
    refine wpAny_pyNext_zipD2_item D (drawsB hh k1 i1 a na its.toArray) (drawsB hh k2 i2 b nb jts.toArray) hz hI hO ⟨h1, p1⟩ ⟨h2, p2⟩ l1 l2 fun u' v' h' tk y1 y2 z' O' s1 s2 hT hsz hk => ?_
    have eu : u' = u := by
      have y1' : its.toArray[i]? = some u' := y1
      have q : its.toArray[i]? = some u := by simpa using hu
      exact Option.some.inj (y1'.symm.trans q)
    have ev : v' = v := by
      have y2' : jts.toArray[i]? = some v' := y2
      have q : jts.toArray[i]? = some v := by simpa using hv
      exact Option.some.inj (y2'.symm.trans q)
    subst eu ev
    refine ⟨_, rfl, wpAny_letOwnedTupleGo_zip (s := { s with heap := h', toks := tk }) z' fun h2' z2' sb => ?_⟩
    have hT2 : h2'.get? s.heap.objs.size = some { cls := .type "tuple", data := .seq #[u', v'] } := (sb.2 _ (Nat.ne_of_gt hzl)).trans hT
    have old : ∀ c o, c ∉ [z, TI, TO, i1, i2] → s.heap.get? c = some o → h2'.get? c = some o := fun c o nc q => by
      simp only [List.mem_cons, List.not_mem_nil, or_false, not_or] at nc
      exact (sb.2 c nc.1).trans (hk c o nc.1 nc.2.2.1 nc.2.2.2.1 nc.2.2.2.2 q)
    have new : ObjOk X.prog X.w (upd H s.heap.objs.size (.tup [x, y])) h2' s.heap.objs.size (.tup [x, y]) :=
      ⟨(by show 2 ≤ sizeLine; decide), [u', v'], Paired.cons ru (Paired.cons rv Paired.nil), ⟨_, hT2, rfl, _, rfl⟩⟩
    have I1 : Inv X pins σ (upd H s.heap.objs.size (.tup [x, y])) { s with heap := h2', toks := tk } := I.turnedNew (t' := tk) (ch := [z, TI, TO, i1, i2]) old hf (Nat.le_refl _) new
    refine ⟨.ref s.heap.objs.size, _, I1, rfl, ⟨_, x, y, rfl, I.hok.fresh (Nat.le_refl _), rfl, fun l hl => ?_, fun l hl => ?_⟩, ⟨z2', ?_, ⟨u', v', ?_⟩, ?_, ?_⟩, fun c hcm => ?_⟩
    · rw [sqB_inj I hl qx]
      exact ex
    · rw [sqB_inj I hl qy]
      exact ey
    · exact (sb.2 _ D.TIz).trans (hk _ _ D.TIz D.TITO D.TIi1 D.TIi2 hI)
    · exact (sb.2 _ D.TOz).trans O'
    · exact s1.1.stay fun o q => (sb.2 _ D.zi1.symm).trans q
    · exact s2.1.stay fun o q => (sb.2 _ D.zi2.symm).trans q
    · obtain ⟨o, eo, _⟩ := (show Zst k1 k2 a b z TI TO i1 i2 i s.heap from ⟨hz, hI, ⟨x0, y0, hO⟩, h1, h2⟩).at hcm
      rw [upd_ne (Nat.ne_of_lt (Heap.lt_size eo))]
      exact (hf c hcm).1
  done := fun X hP hw hK hc i pins s σ H E I hf st hg => by
    subst hP hw hK
    obtain ⟨xs, ys, qx, qy, lx, ly, exy⟩ := hg
    obtain ⟨its, r1, p1, _⟩ := sqB_pl I qx
    obtain ⟨jts, r2, p2, _⟩ := sqB_pl I qy
    obtain ⟨hz, hI, ⟨x0, y0, hO⟩, h1, h2⟩ := st
    have na : a ≠ i1 := by
      have h := S.ha
      rw [S.e1]
      exact Nat.ne_of_lt h
    have nb : b ≠ i2 := by
      have h := S.hb
      rw [S.e2]
      exact Nat.ne_of_lt (Nat.lt_succ_of_lt h)
    have hh : X.A.in1.handled = none := I.ok.hd hc
    have n1 : its.toArray.size = xs.length := by
      rw [List.size_toArray, ← r1.length]
    have n2 : jts.toArray.size = ys.length := by
      rw [List.size_toArray, ← r2.length]
    refine wpAny_pyNext_zipD2_end S.sep (drawsB hh k1 i1 a na its.toArray) (drawsB hh k2 i2 b nb jts.toArray) hz hI hO ⟨h1, p1⟩ ⟨h2, p2⟩ (by omega) (by omega) (by omega) fun h' tk hk => ⟨rfl, I.turnedL (t' := tk) (ch := [z, TI, TO, i1, i2]) (fun c o nc q => ?_) hf⟩
    simp only [List.mem_cons, List.not_mem_nil, or_false, not_or] at nc
    exact hk c o nc.1 nc.2.2.1 nc.2.2.2.1 nc.2.2.2.2 q
  self := fun A i s Q E st h => wpAny_pyIter_zip st.zip h
end
def iZipM (K : PySem.W.Frag) (ta : TA) : TI := fun σ H R => ta σ H fun vs H1 => ∃ k1 k2 a b xs ys, vs = [.ref a, .ref b] ∧ SqB k1 K H1 a xs ∧ SqB k2 K H1 b ys ∧ R (Itm k1 k2 K a b) H1
theorem pi_zipM {X : Cx} {e e2 : Expr} {ta : TA} {p pos tpos : Pos} {elts : List Expr} {kk : Nat} (hg : Gl X "zip") (hm : X.mg "zip" = none) (ha : PA X [e, e2] ta)
    (hs : starEach [e, e2] X.env = (false, eval e X.env) :: starEach [e2] X.env := by rfl) (hpl : (backTo pos (starEach [e2] X.env)).any (·.1) = false := by rfl) :
    PI X (.Tuple elts kk tpos) (.Call (.Name "zip" p) [e, e2] [] pos) (iZipM X.K ta) := ⟨fun pins s σ H R I h => by
  refine Call_ (ld_blt I hg hm boot_zip (callWith_type1 (thn (ha.run pos pins s σ H _ I h) fun us s1 ⟨vs, H1, I1, r1, q1⟩ => ?_) hs hpl))
  obtain ⟨k1, k2, a, b, xs, ys, rfl, qx, qy, q⟩ := q1
  obtain ⟨u, v, rfl, ru, rv⟩ := vals2 r1
  cases ru
  cases rv
  obtain ⟨its, _, p1, la⟩ := sqB_pl I1 qx
  obtain ⟨jts, _, p2, lb⟩ := sqB_pl I1 qy
  refine zip_begins2 (beginsB k1 a its.toArray) (beginsB k2 b jts.toArray) p1 p2 fun h' hz hI hO g1 g2 hsz hk => wpAny_pyIter_zip hz ?_
  have I2 : Inv X pins σ H1 { s1 with heap := h' } := I1.kept (t' := s1.toks) hk
  have S : Side s1.heap.objs.size a b (s1.heap.objs.size + 4) (s1.heap.objs.size + 2) (s1.heap.objs.size + 3) s1.heap.objs.size (s1.heap.objs.size + 1) := ⟨la, lb, rfl, rfl, rfl, rfl, rfl⟩
  refine ⟨s1.heap.objs.size + 4, _, _, _, H1, rfl, I2, turn_zipM S, ⟨hz, hI, ⟨_, _, hO⟩, ItB.start g1, ItB.start g2⟩, fun c hc => ?_, q⟩
  have hle : s1.heap.objs.size ≤ c := by
    rcases five hc with e | e | e | e | e <;> subst e
    · exact Nat.le_add_right _ _
    · exact Nat.le_add_right _ _
    · exact Nat.le_add_right _ _
    · exact Nat.le_refl _
    · exact Nat.le_add_right _ _
  exact I1.fpOk hle (I1.hok.fresh hle)⟩
/-- a comprehension over such a zip of one length -/
theorem made_zip {K : PySem.W.Frag} {k1 k2 : Bool} {σ : L2.St} {H : Hp} {a b : Addr} {xs ys : List V} {g : TG} {te : TE} {vs : List Nat} {Qd : Hp → Prop} {R : Nat → V → Hp → Prop} (st : Stays R) (hx : SqB k1 K H a xs) (hy : SqB k2 K H b ys) (hl : xs.length = ys.length) (hn : xs.length ≤ 1000)
    (hs : ∀ i x y T H1, xs[i]? = some x → ys[i]? = some y → Ex H H1 → H1 T = some (.tup [x, y]) → Gives g te vs σ (.ref T) H1 (R i)) {Dl : Addr} (hD : H Dl = none) (k : ∀ (H' : Hp) (ys : List V), Ex H H' → H' Dl = some (.lst ys) → ys.length = xs.length → (∀ (j : Nat) y, ys[j]? = some y → R j y H') → Qd H') :
    ∃ W : Nat → Nat → Hp → Prop, (∃ m, W 0 m (upd H Dl (.lst []))) ∧ ∀ i m H, W i m H →
      ((Itm k1 k2 K a b).stop i H ∧ Qd H) ∨ ((Itm k1 k2 K a b).go i H ∧ ∃ Nx : Hp → Prop, (∀ H', Nx H' → ∃ m', m' < m ∧ W (i + 1) m' H') ∧ ∀ x H', (Itm k1 k2 K a b).yld i H x H' → g x (wipe σ vs) H' fun σ2 H2 => wipe σ2 vs = wipe σ vs ∧ tYes σ2 H2 fun b H3 =>
        if b = true then te σ2 H3 fun y H4 => ∃ acc, H4 Dl = some (.lst acc) ∧ acc.length < sizeLine ∧ Nx (upd H4 Dl (.lst (acc ++ [y]))) else Nx H3) := by
  refine ⟨fun i m H' => i + m = xs.length ∧ Acc H R true Dl i H', ⟨xs.length, Nat.zero_add _, Acc.start hD⟩, fun i m H1 hW => ?_⟩
  obtain ⟨em, A⟩ := hW
  have qx := hx.ex A.ex
  have qy := hy.ex A.ex
  by_cases hi : i < xs.length
  · have gx : xs[i]? = some xs[i] := List.getElem?_eq_getElem hi
    have hi2 : i < ys.length := by omega
    have gy : ys[i]? = some ys[i] := List.getElem?_eq_getElem hi2
    refine .inr ⟨⟨xs, ys, _, _, qx, qy, gx, gy⟩, Acc H R true Dl (i + 1), fun H' A' => ⟨m - 1, by omega, by omega, A'⟩, fun v H' yl => ?_⟩
    obtain ⟨T, x, y, rfl, nT, rfl, fx, fy⟩ := yl
    have e1 := fx xs qx
    have e2 := fy ys qy
    have eT : Ex H1 (upd H1 T (.tup [x, y])) := exn nT
    have A2 : Acc H R true Dl i (upd H1 T (.tup [x, y])) := by
      obtain ⟨new, ex, zs, h1, h2, h3, h4, h5⟩ := A
      exact ⟨new, ex.trans eT, zs, eT _ _ h1, h2, h3, fun z hz => (h4 z hz).imp fun j q => ⟨q.1, st _ _ _ _ (ExT.of eT) q.2⟩, fun t j z hz => st _ _ _ _ (ExT.of eT) (h5 t j z hz)⟩
    exact turn_of st A2 (by omega) (hs i x y T _ e1 e2 (A.ex.trans eT) upd_same).tests fun _ => rfl
  · have ei : i = xs.length := by omega
    refine .inl ⟨⟨xs, ys, qx, qy, by omega, by omega, .inl ei⟩, ?_⟩
    subst ei
    obtain ⟨new, ex, zs, h1, h2, h3, h4, h5⟩ := A
    exact k H1 zs ex h1 (h3 rfl) (h5 rfl)
end Pre
set_option maxRecDepth 100000
set_option maxHeartbeats 4000000
/-! enumerate over a list or a tuple (k: true a list). -/
namespace Pre
open PySem PySem.Spec PyProof.Rows L2
theorem meets_enumerate_newM {v : Value} {o : Obj} {H : Heap → Prop} (B : Begins v o H) :
    Meets (Builtin.«enumerate.__new__» ⟨[.type "enumerate", v], []⟩) (fun _ R s => H s.heap ∧
      R (.ok (.ret (.ref (s.heap.push o).objs.size))) { s with heap := (s.heap.push o).push { cls := .type "enumerate", data := .fields #[.none, .bool false, .ref s.heap.objs.size, rawInt 0, .none, .none] } }) :=
  .of_wp fun prog w A R s h => by
    obtain ⟨hp, g, d, tk, os⟩ := s; obtain ⟨h1, h⟩ := h
    have hsub := sub_enumerate
    have q1 : ∀ {A' : Around} {E : Value → Shared → Prop} {Q : Value → Shared → Prop}, Q (.ref hp.objs.size) ⟨hp.push o, g, d, tk, os⟩ → wpAny (model prog w) A' (pyIter v) Q E ⟨hp, g, d, tk, os⟩ :=
      fun q => B.iter prog w _ _ ⟨hp, g, d, tk, os⟩ _ h1 q
    wp_walk using q1
    refine wpAny_stack_any fun st => wpAny_pure ?_
    split
    · rename_i c _ _ _ _ _
      cases (c == Value.type "enumerate")
      · wp_walk using q1
        exact ⟨_, rfl, h⟩
      · wp_walk using q1
        exact ⟨_, rfl, h⟩
    · wp_walk using q1
      exact ⟨_, rfl, h⟩
section
variable {prog : Program} {w : World} {A : Around} {E : Value → Shared → Prop} {s : Shared}
theorem enum_begins1 {v : Value} {o : Obj} {H : Heap → Prop} {Q : Value → Shared → Prop} (B : Begins v o H) (h1 : H s.heap)
    (h : ∀ h', IsEnum h' (s.heap.objs.size + 1) s.heap.objs.size 0 .none → h'.get? s.heap.objs.size = some o → h'.objs.size = s.heap.objs.size + 2 →
      (∀ b o, s.heap.get? b = some o → h'.get? b = some o) → Q (.ref (s.heap.objs.size + 1)) { s with heap := h' }) :
    wpAny (model prog w) A (call (.type "enumerate") [v]) Q E s := by
  refine callType_new F.called_enumerate (by decide) (F.typeCall_enumerate_1 _) (F.newCall_enumerate_1 _) (fun obj => F.args_object_init_2 obj _) F.entry_enumerate_new
    (meets_enumerate_newM B) ⟨h1, ?_⟩
  have hz : (s.heap.push o).objs.size = s.heap.objs.size + 1 := Heap.size_push ..
  show _ ∧ _
  rw [hz]
  have he : IsEnum ((s.heap.push o).push { cls := .type "enumerate", data := .fields #[.none, .bool false, .ref s.heap.objs.size, rawInt 0, .none, .none] }) (s.heap.objs.size + 1) s.heap.objs.size 0 .none := by
    have := Heap.get?_push_size (s.heap.push o) (o := { cls := .type "enumerate", data := .fields #[.none, .bool false, .ref s.heap.objs.size, rawInt 0, .none, .none] }) rfl
    rw [hz] at this; exact this
  refine ⟨⟨_, he, rfl⟩, h _ he (Heap.get?_push_of_some _ (Heap.get?_push_size _ B.free)) (by rw [Heap.size_push, hz]) fun b o x => Heap.get?_push_of_some _ (Heap.get?_push_of_some _ x)⟩
end
def ItEn (k : Bool) (K : PySem.W.Frag) (a : Addr) : It :=
  ⟨fun i H => ∃ (xs : List V) (x : V), SqB k K H a xs ∧ xs[i]? = some x, fun i H v H' => ∃ T x, v = .ref T ∧ H T = none ∧ H' = upd H T (.tup [.int (i : Nat), x]) ∧ ∀ xs, SqB k K H a xs → xs[i]? = some x, fun i H => ∃ xs : List V, SqB k K H a xs ∧ xs.length = i⟩
theorem turn_enumM {P : Program} {w : World} {K : PySem.W.Frag} {elts : List Expr} {kk : Nat} {tpos : Pos} (k : Bool) (a e it : Addr) :
    Turn P w K (.Tuple elts kk tpos) (ItEn k K a) [e, it] e (fun i h => (∃ old, IsEnum h e it ((i : Nat) : Int) old) ∧ ItB k h it a i ∧ e ≠ it ∧ a ≠ it ∧ e ≠ a) where
  mem := by simp
  obj := fun i h st b hb => by
    obtain ⟨⟨old, he⟩, hit, _⟩ := st
    have e' : b = e ∨ b = it := by simpa using hb
    rcases e' with z | z
    · rw [z]; exact ⟨_, he, fun v q => nomatch q⟩
    · rw [z]; exact hit.look
  keep := fun i h h' st kp => let ⟨⟨old, he⟩, hi, hne⟩ := st; ⟨⟨old, kp e (by simp) _ he⟩, hi.stay fun o q => kp it (by simp) o q, hne⟩
  item := by
    intro X hP hw hK hc i pins s σ H E I hf st hg
    subst hP hw hK
    obtain ⟨⟨old, he⟩, hit, hne, hna, hea⟩ := st
    obtain ⟨xs, x, hq, hx⟩ := hg
    obtain ⟨its, rv, p, hz⟩ := sqB_pl I hq
    obtain ⟨u, hu, ru⟩ := rv.get hx
    have hel : e < s.heap.objs.size := Heap.lt_size he
    have hil : it < s.heap.objs.size := by obtain ⟨_, q, _⟩ := hit.look; exact Heap.lt_size q
    have hh : X.A.in1.handled = none := I.ok.hd hc
    have l1 : i < its.toArray.size := by
      have := (List.getElem?_eq_some_iff.mp hu).1
      simpa using this
    refine wpAny_pyNext_enum_itemD (drawsB hh k it a hna its.toArray) he ⟨hit, p⟩ l1 hne (by simp [hne, hea]) fun u' h' tk y1 ho s1 hT hsz hk => ?_
    have eu : u' = u := by
      have y1' : its.toArray[i]? = some u' := y1
      have q : its.toArray[i]? = some u := by simpa using hu
      exact Option.some.inj (y1'.symm.trans q)
    subst eu
    refine ⟨_, rfl, wpAny_letOwnedTupleGo_enum (s := { s with heap := h', toks := tk + 1 }) ho fun h'' he' sb => ?_⟩
    have hT2 : h''.get? s.heap.objs.size = some { cls := .type "tuple", data := .seq #[.int i tk, u'] } := (sb.2 _ (Nat.ne_of_gt hel)).trans hT
    have new : ObjOk X.prog X.w (upd H s.heap.objs.size (.tup [.int (i : Nat), x])) h'' s.heap.objs.size (.tup [.int (i : Nat), x]) :=
      ⟨by show 2 ≤ sizeLine; decide, [.int i tk, u'], .cons ⟨_, rfl⟩ (.cons ru .nil), ⟨_, hT2, rfl, _, rfl⟩⟩
    have I1 : Inv X pins σ (upd H s.heap.objs.size (.tup [.int (i : Nat), x])) { s with heap := h'', toks := tk + 1 } :=
      I.turnedNew (ch := [e, it]) (fun b ob hb q => (sb.2 b (fun z => hb (by simp [z]))).trans (hk b ob (fun z => hb (by simp [z])) (fun z => hb (by simp [z])) q)) hf (Nat.le_refl _) new
    refine ⟨.ref s.heap.objs.size, _, I1, rfl, ⟨_, x, rfl, I.hok.fresh (Nat.le_refl _), rfl, fun ys hy => by rw [sqB_inj I hy hq]; exact hx⟩, ⟨⟨u', ?_⟩, s1.1.stay fun o q => (sb.2 it (Ne.symm hne)).trans q, hne, hna, hea⟩, fun b hb => ?_⟩
    · have e1 : ((i + 1 : Nat) : Int) = (i : Int) + 1 := by omega
      rw [e1]; exact he'
    · have hb' : b < s.heap.objs.size := by
        have e' : b = e ∨ b = it := by simpa using hb
        rcases e' with z | z
        · rw [z]; exact hel
        · rw [z]; exact hil
      rw [upd_ne (Nat.ne_of_lt hb')]
      exact (hf b hb).1
  done := by
    intro X hP hw hK hc i pins s σ H E I hf st hg
    subst hP hw hK
    obtain ⟨⟨old, he⟩, hit, hne, hna, hea⟩ := st
    obtain ⟨xs, hq, hx⟩ := hg
    obtain ⟨its, rv, p, hz⟩ := sqB_pl I hq
    obtain ⟨f0, f1, f2, f3, f4, f5⟩ := hf it (by simp)
    have hh : X.A.in1.handled = none := I.ok.hd hc
    have n1 : i = its.toArray.size := by
      rw [List.size_toArray, ← rv.length, hx]
    subst n1
    exact wpAny_pyNext_enum_endD (drawsB hh k it a hna its.toArray) he ⟨hit, p⟩ fun h' eb => ⟨rfl, I.turned (t' := s.toks) (fun b o hb q => eb b o hb q) f0 f1 f3 f4 f5⟩
  self := fun A i s Q E st h => let ⟨⟨_, he⟩, _⟩ := st; wpAny_pyIter_enum he h
def iEnM (K : PySem.W.Frag) (ta : TA) : TI := fun σ H R => ta σ H fun vs H1 => ∃ k a xs, vs = [.ref a] ∧ SqB k K H1 a xs ∧ R (ItEn k K a) H1
theorem pi_enumM {X : Cx} {e : Expr} {ta : TA} {p pos tpos : Pos} {elts : List Expr} {kk : Nat} (hg : Gl X "enumerate") (hm : X.mg "enumerate" = none) (ha : PA X [e] ta) (hs : starEach [e] X.env = [(false, eval e X.env)] := by rfl) :
    PI X (.Tuple elts kk tpos) (.Call (.Name "enumerate" p) [e] [] pos) (iEnM X.K ta) := by
  refine ⟨fun pins s σ H R I h => ?_⟩
  refine Call_ (ld_blt I hg hm boot_enumerate (PyProof.Rows.callWith_type1 (thn (ha.run pos pins s σ H _ I h) fun us s1 ⟨vs, H1, I1, r1, q1⟩ => ?_) hs rfl))
  obtain ⟨k, a, xs, ex, hq, q⟩ := q1
  subst ex
  cases r1 with
  | cons r rr =>
    cases rr
    cases r
    obtain ⟨its, rv, p', hz⟩ := sqB_pl I1 hq
    refine enum_begins1 (beginsB k a its.toArray) p' fun h' he hit hsz hk => wpAny_pyIter_enum he ?_
    have I2 : Inv X pins σ H1 { s1 with heap := h' } := I1.kept (t' := s1.toks) hk
    refine ⟨s1.heap.objs.size + 1, [s1.heap.objs.size + 1, s1.heap.objs.size], _, _, H1, rfl, I2, turn_enumM k a (s1.heap.objs.size + 1) s1.heap.objs.size, ⟨⟨.none, he⟩, ItB.start hit, Nat.succ_ne_self _, Nat.ne_of_lt hz, Nat.ne_of_gt (Nat.lt_succ_of_lt hz)⟩, fun b hb => ?_, q⟩
    have e' : b = s1.heap.objs.size + 1 ∨ b = s1.heap.objs.size := by simpa using hb
    have hle : s1.heap.objs.size ≤ b := by
      rcases e' with z | z
      · rw [z]; exact Nat.le_add_right _ _
      · rw [z]; exact Nat.le_refl _
    exact I1.fpOk hle (I1.hok.fresh hle)
end Pre
set_option maxRecDepth 100000
set_option maxHeartbeats 4000000
/-! Own error classes with an own __init__, over any built-in base (the hand layer has ValueError's): stored fields, raised, made and kept as values, their fields read. -/
namespace Xc
open PySem PySem.Spec PyProof.Rows L2
/-- what must be known of the mro behind a class: its built-in base B and a few others, and that stores are let through -/
structure Tail (bm : List Value) (B : String) : Prop where
  hB : bm.contains (.type B) = true
  hA : bm.contains (.type "AttributeError") = false
  hN : bm.contains (.type "NameError") = false
  hO : bm.contains (.type "object") = true
  pass : ∀ me : Value, refuseLoop me "__setattr__" bm = pure ()
theorem cont_ref {D : Addr} {bm : List Value} {Y : String} : (Value.ref D :: bm).contains (.type Y) = bm.contains (.type Y) := by
  rw [List.contains_cons]
  rfl
theorem tail_ref {bm : List Value} {B : String} {D : Addr} (t : Tail bm B) : Tail (.ref D :: bm) B :=
  ⟨cont_ref.trans t.hB, cont_ref.trans t.hA, cont_ref.trans t.hN, cont_ref.trans t.hO, fun me => by rw [refuseLoop_ref]; exact t.pass me⟩
abbrev tExc : List Value := [.type "Exception", .type "BaseException", .type "object"]
abbrev tKey : List Value := [.type "KeyError", .type "LookupError", .type "Exception", .type "BaseException", .type "object"]
theorem tail_exc : Tail tExc "Exception" := ⟨by decide +kernel, by decide +kernel, by decide +kernel, by decide +kernel, fun me => PySem.F.store_Exception.passes me⟩
theorem tail_key : Tail tKey "LookupError" := ⟨by decide +kernel, by decide +kernel, by decide +kernel, by decide +kernel, fun me => by kernel_rfl⟩
/-- own classes, then these -/
def over : List Value → List Value → Bool
  | .ref _ :: r, l => over r l
  | m, l => m == l
theorem over_ok {l : List Value} {B : String} (t : Tail l B) : ∀ bm : List Value, over bm l = true → Tail bm B
  | .ref _ :: r, e => tail_ref (over_ok t r e)
  | [], e => beq_iff_eq.mp e ▸ t
  | .none :: _, e => beq_iff_eq.mp e ▸ t
  | .ellipsis :: _, e => beq_iff_eq.mp e ▸ t
  | .notImplemented :: _, e => beq_iff_eq.mp e ▸ t
  | .bool _ :: _, e => beq_iff_eq.mp e ▸ t
  | .int _ _ :: _, e => beq_iff_eq.mp e ▸ t
  | .float _ _ :: _, e => beq_iff_eq.mp e ▸ t
  | .str _ _ :: _, e => beq_iff_eq.mp e ▸ t
  | .bytes _ _ :: _, e => beq_iff_eq.mp e ▸ t
  | .type _ :: _, e => beq_iff_eq.mp e ▸ t
  | .builtin _ :: _, e => beq_iff_eq.mp e ▸ t

section
open Builtin Builtin.ObjectAttr PySem.W
variable {prog : Program} {w : World} {A : Around} {E : Value → Shared → Prop} {R : Result → Shared → Prop} {hp : Heap} {g : Array GenState} {d : Drawn} {t : Nat} {os : OsState}
/-- object.__setattr__ on an error, as far as its dict -/
theorem osa_go {K : Frag} {name : Str} {tk : Tok} {v : Value} {x C : Addr} {ox : Obj} {od : Option Obj} {cd : ClassData} {bm : List Value} {B : String} (X : K.In hp) (I : InstAt hp x ox C od) (hcd : clsIn K C = some cd)
    (hm : cd.mro = .ref C :: bm) (T : Tail bm B) (ha : findIn K (.ref C) name = some none)
    (hq : wpAny (model prog w) A.in1 (storeInOwnDict (.ref x) (.ref C) (.str name tk) name v false)
      (fun r s' => match r with | .done f => R (.ok f) s' | .again c' => c'.quiet = true ∧ codeAny (model prog w) A c' R s') (fun e s' => R (.error e) s') ⟨hp, g, d, t, os⟩) :
    codeAny (model prog w) A (.call (.builtin "object.__setattr__") ⟨[.ref x, .str name tk, v], []⟩) R ⟨hp, g, d, t, os⟩ := by
  have S := F.store_object
  have hob : cd.mro.contains (.type "object") = true := by rw [hm]; exact cont_ref.trans T.hO
  have hmt : mroIn K C (.type "object") = some true := by
    unfold mroIn
    rw [hcd, Option.bind_some, hob, hm]
    rfl
  have sub : Looks (model prog w) hp (isInstance (.ref x) (.type "object")) true := I.type.andThen (looks_mroIn X hmt)
  have lm : Looks (model prog w) hp (mroOf (.ref C)) cd.mro := (looks_clsIn X hcd).andThen .now
  have ln : Looks (model prog w) hp (storeTaker? none) none := .now
  have lp : refuseLoop (.ref x) "__setattr__" cd.mro = pure () := by
    rw [hm, refuseLoop_ref]
    exact T.pass _
  refine codeAny_call_builtin S.slot.plain S.entry (@check_slot (model prog w) _ _ ⟨hp, g, d, t, os⟩ "object.__setattr__" "object" "__setattr__" (.ref x) [.str name tk, v] [] _ S.kind S.split sub (S.args (.ref x) (.str name tk) v) ?_)
  rw [osa_eq, refuse_eq]
  refine wpAny_bind (wpAny_bind (I.type.at (wpAny_bind (lm.at ?_))))
  rw [lp]
  refine wpAny_pure (wpAny_bind (I.type.at (wpAny_bind ((looks_findIn X ha).at (wpAny_bind (ln.at ?_))))))
  exact hq
theorem osa_first {K : Frag} {name : Str} {tk : Tok} {v : Value} {x C : Addr} {fv : Array Value} {cd : ClassData} {bm : List Value} {B : String} (X : K.In hp) (hx : hp.get? x = some { cls := .ref C, data := .fields fv })
    (hcd : clsIn K C = some cd) (hm : cd.mro = .ref C :: bm) (hh : cd.hasDict = true) (T : Tail bm B) (ha : findIn K (.ref C) name = some none)
    (hq : ∀ h' tk' dx, (∀ b o, b ≠ x → hp.get? b = some o → h'.get? b = some o) → hp.objs.size ≤ dx → dx ≠ x → h'.get? x = some { cls := .ref C, dict := some dx, data := .fields fv } →
      h'.Ns1 dx (fun y => if y = name then some v else none) → R (.ok (.ret .none)) ⟨h', g, d, tk', os⟩) :
    codeAny (model prog w) A (.call (.builtin "object.__setattr__") ⟨[.ref x, .str name tk, v], []⟩) R ⟨hp, g, d, t, os⟩ := by
  refine osa_go (od := none) X ⟨hx, rfl, rfl, trivial⟩ hcd hm T ha ?_
  have xs : x ≠ hp.objs.size := Nat.ne_of_lt (Heap.lt_size hx)
  have lc : Looks (model prog w) hp (classData C) cd := looks_clsIn X hcd
  obtain ⟨nm, bs, mro, ns, qn, hd, sn, sb, ab, col, del⟩ := cd
  dsimp only at hh
  subst hh
  unfold storeInOwnDict ownDictForStores
  repeat (first | with_reducible refine PySem.HandSPX.store_in_new ?_ ?_ | with_reducible refine wpAny_loadPart_at hx ?_ | with_reducible refine lc.at ?_ | wp_step)
  · exact ⟨_, #[], _, (Heap.get?_update_ne _ _ _ _ xs.symm).trans (Heap.get?_push_at rfl rfl), rfl, fun e he => absurd he (by simp), fun _ => rfl⟩
  · intro h' tk' n' same
    have hx1 : (hp.push { cls := .type "dict", data := .dict #[] }).get? x = some { cls := .ref C, data := .fields fv } := Heap.get?_push_of_some _ hx
    refine hq h' tk' hp.objs.size (fun b o nb ho => ?_) (Nat.le_refl _) xs.symm ((same.2 x xs).trans (Heap.get?_update_self _ hx1 rfl)) n'
    exact (same.2 b (Nat.ne_of_lt (Heap.lt_size ho))).trans ((Heap.get?_update_ne _ _ _ _ nb).trans (Heap.get?_push_of_some _ ho))
theorem osa_more {K : Frag} {name : Str} {tk : Tok} {v : Value} {x C dx : Addr} {fv : Array Value} {cd : ClassData} {m0 : Str → Option Value} {nl : List Str} {bm : List Value} {B : String} (X : K.In hp)
    (hx : hp.get? x = some { cls := .ref C, dict := some dx, data := .fields fv }) (hns : hp.Ns1 dx m0) (hw : Within m0 nl) (hz : nl.length ≤ 1000) (hcd : clsIn K C = some cd) (hm : cd.mro = .ref C :: bm) (hh : cd.hasDict = true) (T : Tail bm B) (ha : findIn K (.ref C) name = some none)
    (hq : ∀ h' tk', (∀ b o, b ≠ dx → hp.get? b = some o → h'.get? b = some o) → h'.Ns1 dx (fun y => if y = name then some v else m0 y) → R (.ok (.ret .none)) ⟨h', g, d, tk', os⟩) :
    codeAny (model prog w) A (.call (.builtin "object.__setattr__") ⟨[.ref x, .str name tk, v], []⟩) R ⟨hp, g, d, t, os⟩ := by
  obtain ⟨oD, _, _, hoD, _, _⟩ := hns.count hw
  refine osa_go (od := some oD) X ⟨hx, rfl, rfl, hoD⟩ hcd hm T ha ?_
  have lc : Looks (model prog w) hp (classData C) cd := looks_clsIn X hcd
  obtain ⟨nm, bs, mro, ns, qn, hd, sn, sb, ab, col, del⟩ := cd
  dsimp only at hh
  subst hh
  unfold storeInOwnDict ownDictForStores
  repeat (first | with_reducible refine PySem.OEX.store_in_old hns hw hz ?_ | with_reducible refine wpAny_loadPart_at hx ?_ | with_reducible refine lc.at ?_ | wp_step)
  intro h' tk' n' same
  exact hq h' tk' (fun b o nb ho => (same.2 b nb).trans ho) n'
end

/-! ### the class called, with values and keywords -/
section
variable {M : Model} {prog : Program} {w : World} {A : Around} {E : Value → Shared → Prop} {R : Result → Shared → Prop} {h : Heap} {g : Array GenState} {d : Drawn} {t : Nat} {os : OsState}
variable {nm q : Str} {C N : Addr} {bs bm bmB : List Value} {hdct : Bool} {sn : List Str} {sub : List Value} {ab : Bool} {col : Option Bool} {dd : Option Addr} {k0 k1 k2 k3 k5 : Option Value} {B newId initId : String} {rest : List Value} {kw : List (Str × Value)}
theorem chk_new (F : ExcBaseFacts B newId initId bmB) (TT : Tail bm B) {Q : Unit → Shared → Prop}
    (hC : h.get? C = some (excClassObj nm q C N bs bm hdct sn sub ab col dd k0 k1 k2 k3 k5 newId)) (hq : Q () ⟨h, g, d, t, os⟩) : wpAny M A (checkBuiltinCall newId ⟨.ref C :: rest, kw⟩) Q E ⟨h, g, d, t, os⟩ := by
  have c1 : (Value.ref C :: bm).contains (.type B) = true := by exact cont_ref.trans TT.hB
  have st := F.noStar
  simp only [checkBuiltinCall, F.newKind, F.newSplit, F.newRow]
  repeat (first | refine wpAny_loadPart_at hC ?_ | (refine wpAny_isSubtype_exc hC ?_; rw [c1]) | refine wpAny_staticBase_exc hC ?_ | refine wpAny_madeBy_exc hC ?_ | simp only [bne_self_eq_false, Bool.false_eq_true, if_false] | wp_step)
  all_goals exact hq
theorem go_new (F : ExcBaseFacts B newId initId bmB) (TT : Tail bm B)
    (hC : h.get? C = some (excClassObj nm q C N bs bm hdct sn sub ab col dd k0 k1 k2 k3 k5 newId)) (hz : rest.length ≤ sizeLine)
    (hq : R (.ok (.ret (.ref (h.objs.size + 1)))) ⟨(h.push { cls := .type "tuple", data := .seq rest.toArray }).push { cls := .ref C, data := .fields #[.ref h.objs.size, .none, .none, .none, .bool false, .none] }, g, d, t, os⟩) :
    codeAny (model prog w) A (.builtin newId ⟨.ref C :: rest, kw⟩) R ⟨h, g, d, t, os⟩ := by
  have en := F.ends
  have c1 : (Value.ref C :: bm).contains (.type B) = true := by exact cont_ref.trans TT.hB
  have c2 : (Value.ref C :: bm).contains (.type "AttributeError") = false := by exact cont_ref.trans TT.hA
  have c3 : (Value.ref C :: bm).contains (.type "NameError") = false := by exact cont_ref.trans TT.hN
  refine codeAny_builtinAt F.entry ?_
  unfold Builtin.«BaseException.__new__»
  refine PySem.wpAt_bind ?_
  show PySem.wpAt _ _ _ (stack >>= _) _ _ _
  refine PySem.wpAt_bind (PySem.wpAt_stack fun p below => PySem.wpAt_of_wpAny ?_)
  wp_walk
  refine PySem.wpAt_of_wpAny ?_
  rw [F.owner]
  repeat (first | with_reducible refine wpAny_madeHere_exc F.canon hC ?_ | with_reducible refine wpAny_loadPart_at hC ?_ | (with_reducible refine wpAny_isSubtype_exc hC ?_; first | rw [c1] | rw [c2] | rw [c3]) | wp_step)
  show R _ _
  rw [Heap.size_push]
  exact hq
theorem ty_call (F : ExcBaseFacts B newId initId bmB) (TT : Tail bm B) {fI : Addr} {Q : Fin → Shared → Prop}
    (hC : h.get? C = some (excClassObj nm q C N bs bm hdct sn sub ab col dd k0 k1 k2 k3 k5 newId)) (hi : PySem.W.Looks (model prog w) h (typeLookup (.ref C) "__init__") (some (.ref fI)))
    (hb : ∀ me, PySem.W.Looks (model prog w) h (bindSpecial (.ref fI) me) (.ref fI, [me])) (hz : rest.length ≤ sizeLine)
    (hq : codeAny (model prog w) A (.call (.ref fI) ⟨.ref (h.objs.size + 1) :: rest, kw⟩)
      (fun r s' => match r with | .ok (.ret v) => v = .none ∧ Q (.done (.ret (.ref (h.objs.size + 1)))) s' | .ok _ => False | .error e => E e s') ⟨(h.push (PySem.W.kdv_tup rest)).push (PySem.HandSPX.excO C h.objs.size), g, d, t, os⟩) :
    wpAny (model prog w) A (Builtin.«type.__call__» ⟨.ref C :: rest, kw⟩) Q E ⟨h, g, d, t, os⟩ := by
  repeat (first | with_reducible refine wpAny_loadPart_at hC ?_ | with_reducible refine wpAny_madeBy_exc hC ?_ | wp_step)
  refine codeAny_call_builtin_code (Code.quiet_builtin _ F.quiet) (chk_new F TT hC ?_)
  refine go_new F TT hC hz ?_
  show wpAny _ _ _ _ _ _
  have kk : ∀ b o, h.get? b = some o → ((h.push (PySem.W.kdv_tup rest)).push (PySem.HandSPX.excO C h.objs.size)).get? b = some o := fun b o z => Heap.get?_push_of_some _ (Heap.get?_push_of_some _ z)
  have hC1 := kk _ _ hC
  have at1 : ((h.push (PySem.W.kdv_tup rest)).push (PySem.HandSPX.excO C h.objs.size)).get? (h.objs.size + 1) = some (PySem.HandSPX.excO C h.objs.size) := by heap_get
  have cc : (Value.ref C :: bm).contains (.ref C) = true := by simp
  unfold isInstance
  repeat (first | with_reducible refine wpAny_loadPart_at at1 ?_ | (with_reducible refine wpAny_isSubtype_exc hC1 ?_; rw [cc]) | wp_step)
  show wpAny _ _ (typeLookup (.ref C) _) _ _ _
  refine (hi.keeps kk).at (wpAny_holding (wpAny_bind (((hb (.ref (h.objs.size + 1))).keeps kk).at ?_)))
  refine wpAny_bind (wpAny_call (codeAny_mono hq fun r s' z => ?_))
  rcases r with e | (v | _ | _ | _) <;> first | exact z | exact z.elim | skip
  obtain ⟨rfl, z⟩ := z
  first
    | exact wpAny_pure (wpAny_pure z)
    | (wp_walk; exact z)
theorem cls_call (F : ExcBaseFacts B newId initId bmB) (TT : Tail bm B) {fI : Addr}
    (hC : h.get? C = some (excClassObj nm q C N bs bm hdct sn sub ab col dd k0 k1 k2 k3 k5 newId)) (hi : PySem.W.Looks (model prog w) h (typeLookup (.ref C) "__init__") (some (.ref fI)))
    (hb : ∀ me, PySem.W.Looks (model prog w) h (bindSpecial (.ref fI) me) (.ref fI, [me])) (hz : rest.length ≤ sizeLine)
    (hq : codeAny (model prog w) (A.under (.builtin "type.__call__" ⟨.ref C :: rest, kw⟩)) (.call (.ref fI) ⟨.ref (h.objs.size + 1) :: rest, kw⟩) (PySem.W.InitBack (h.objs.size + 1) R) ⟨(h.push (PySem.W.kdv_tup rest)).push (PySem.HandSPX.excO C h.objs.size), g, d, t, os⟩) :
    codeAny (model prog w) A (.call (.ref C) ⟨rest, kw⟩) R ⟨h, g, d, t, os⟩ := by
  have f1 := PySem.tc_lookup
  have f2 := PySem.tc_bind (.ref C)
  have hTy : (⟨h, g, d, t, os⟩ : Shared).TypeIs (.ref C) "type" := ⟨_, hC, rfl⟩
  refine codeAny_of_tree ?_
  show wpAny _ _ (callAny (.ref C) _) _ _ _
  repeat (any_goals (first | assumption | with_reducible refine wpAny_loadPart_at hC ?_ | wp_step))
  refine ⟨rfl, codeAny_call_builtin_at (Code.quiet_builtin _ (by decide +kernel)) entry_typeCall (wpAny_check_type_call_sub hC (ty_call F TT hC hi hb hz ?_))⟩
  refine codeAny_mono hq fun r s' z => ?_
  rcases r with e | (v | _ | _ | _) <;> exact z
end

/-- what the written part says of such a class -/
structure ErC (K : PySem.W.Frag) (C : Addr) (B newId : String) : Prop where
  cls : ∃ nm q N bs bm sn sub ab col dd k0 k1 k2 k3 k5, K.lookup C = some (excClassObj nm q C N bs bm true sn sub ab col dd k0 k1 k2 k3 k5 newId) ∧ Tail bm B
  sa : PySem.W.findIn K (.ref C) "__setattr__" = some (some (.builtin "object.__setattr__"))
  exC : PySem.W.subIn K (.ref C) (.type "BaseException") = some true
  tyC : PySem.W.typeIn K (.ref C) = some (.type "type")
  kC : PySem.W.keepIn K (.ref C) = true
theorem ErC.cd {K : PySem.W.Frag} {C : Addr} {B newId : String} (T : ErC K C B newId) : ∃ cd bm, PySem.W.clsIn K C = some cd ∧ cd.mro = .ref C :: bm ∧ cd.hasDict = true ∧ Tail bm B := by
  obtain ⟨nm, q, N, bs, bm, sn, sub, ab, col, dd, k0, k1, k2, k3, k5, hC, t⟩ := T.cls
  refine ⟨{ name := nm, bases := bs, mro := .ref C :: bm, ns := N, qualname := q, hasDict := true, slotNames := sn, subclasses := sub, abstract := ab, collection := col, hasDel := false }, bm, ?_, rfl, rfl, t⟩
  unfold PySem.W.clsIn
  rw [hC]

section
variable {X : Cx} {pins : List (Addr × Obj)} {σ : L2.St} {H : Hp} {s : Shared} {a C dx : Addr} {f : Str} {y : V} {u : Value} {fs : List (Str × V)} {Q : Unit → Shared → Prop} {E : Value → Shared → Prop} {A : Around} {B newId : String}
theorem st_first (T : ErC X.K C B newId) (I : Inv X pins σ H s) (e : H a = some (exo a C none)) (hno : PySem.W.findIn X.K (.ref C) f = some none) (ry : RelV y u)
    (h : ∀ dx s', H dx = none → dx ≠ a → Inv X pins σ (upd (upd H dx (exd dx [(f, y)])) a (exo a C (some dx))) s' → Q () s') : wpAny (model X.prog X.w) A (setAttr (.ref a) f u) Q E s := by
  obtain ⟨cd, bm, hcl, hm, hh, TT⟩ := T.cd
  obtain ⟨t1, ho⟩ := exo_at I.hok e
  obtain ⟨hp, g, d, t, os⟩ := s
  refine PySem.W.set_plain I.kIn (od := none) ⟨ho, rfl, rfl, trivial⟩ T.sa (osa_first I.kIn ho hcl hm hh TT hno fun h' tk' dx k dn dne hx hn => ?_)
  have nD : H dx = none := I.hok.fresh dn
  have nd : ∀ {b : Addr} {o : Obj}, hp.get? b = some o → b ≠ dx := fun q => Nat.ne_of_lt (Nat.lt_of_lt_of_le (Heap.lt_size q) dn)
  have na : ∀ {b : Addr}, H b = none → b ≠ a := fun {b} n z => by rw [z, e] at n; cases n
  have both : ∀ {b : Addr}, b ≠ a → b ≠ dx → upd (upd H dx (exd dx [(f, y)])) a (exo a C (some dx)) b = H b := fun h1 h2 => by rw [upd_ne h1, upd_ne h2]
  refine h dx _ nD dne (I.un (t' := tk') ⟨fun b o q n _ _ => k b o (na n) q, fun b o q n _ _ => ⟨o.slots, k b o (na n) q⟩, fun b o q n _ => (both (na n) (nd q)).trans n, fun b o q _ => ?_,
    fun b xs q => (both (at_ne e q exo_tup) (ne_of_none q nD)).trans q, fun b o v q => (both (at_ne e q exo_frz) (ne_of_none q nD)).trans q, fun b ps q => ⟨#[], by rw [both (at_ne e q exo_tbl) (ne_of_none q nD), q]; simp⟩⟩ fun b o q => ?_)
  · by_cases hb : b = a
    · exact ⟨_, by rw [hb]; exact hx⟩
    · exact ⟨o, k b o hb q⟩
  · by_cases hb : b = a
    · subst hb
      rw [upd_same] at q
      cases q
      exact exo_ok hx
    · by_cases hd : b = dx
      · subst hd
        rw [upd_ne hb, upd_same] at q
        cases q
        exact exd_ok hn (relO_put (fs := []) ry fun _ => True.intro)
      · rw [both hb hd] at q
        refine (I.hok b o q).stay (fun c v hc z => k c v ?_ z) (fun c hc => (both (at_ne e hc exo_own) (ne_of_none hc nD)).trans hc) fun c xs hc => (both (at_ne e hc exo_tup) (ne_of_none hc nD)).trans hc
        rcases hc with hc | hc
        · rw [hc]
          exact hb
        · exact at_ne e hc exo_own
theorem st_more (T : ErC X.K C B newId) (I : Inv X pins σ H s) (e : H a = some (exo a C (some dx))) (ed : H dx = some (exd dx fs)) (hl : fs.length ≤ 900) (hno : PySem.W.findIn X.K (.ref C) f = some none) (ry : RelV y u)
    (h : ∀ s', Inv X pins σ (upd H dx (exd dx ((f, y) :: fs))) s' → Q () s') : wpAny (model X.prog X.w) A (setAttr (.ref a) f u) Q E s := by
  obtain ⟨cd, bm, hcl, hm, hh, TT⟩ := T.cd
  obtain ⟨t1, ho⟩ := exo_at I.hok e
  obtain ⟨mA, hns, rel⟩ := exd_at I.hok ed
  have hw := within_of rel
  obtain ⟨hp, g, d, t, os⟩ := s
  obtain ⟨oD, _, _, hoD, _, _⟩ := hns.count hw
  have le : (fs.map (·.1)).length ≤ 1000 := by rw [List.length_map]; omega
  refine PySem.W.set_plain I.kIn (od := some oD) ⟨ho, rfl, rfl, hoD⟩ T.sa (osa_more I.kIn ho hns hw le hcl hm hh TT hno fun h' tk' k hn => ?_)
  obtain ⟨o, _, _, e', _⟩ := id hn
  exact h _ (I.write (t' := tk') (x := dx) (e := dx) (o := exd dx ((f, y) :: fs)) (by rw [ed]; exact True.intro) (.inl rfl) k ⟨o, e'⟩ (exd_ok hn (relO_put ry rel)))
end

/-- me.f = e in an error's __init__ -/
def tSt (K : PySem.W.Frag) (f : Str) (to te : TE) : TS := fun D σ H => te σ H fun y H1 => to σ H1 fun x H2 => ∃ (a C : Addr) (B newId : String), x = .ref a ∧ ErC K C B newId ∧ PySem.W.findIn K (.ref C) f = some none ∧
  ((H2 a = some (exo a C none) ∧ ∀ dx, H2 dx = none → dx ≠ a → D.nx σ (upd (upd H2 dx (exd dx [(f, y)])) a (exo a C (some dx)))) ∨
    ∃ (dx : Addr) (fs : List (Str × V)), H2 a = some (exo a C (some dx)) ∧ H2 dx = some (exd dx fs) ∧ fs.length ≤ 900 ∧ D.nx σ (upd H2 dx (exd dx ((f, y) :: fs))))
theorem ps_st {X : Cx} {o e : Expr} {to te : TE} {f : Str} {p' pos : Pos} (ho : PE X o to) (he : PE X e te) (hs : swapsWith e (some (.Attribute o f p')) pos.line X.env = pure false := by rfl) : PS X (.Assign [.Attribute o f p'] e pos) (tSt X.K f to te) := by
  refine ⟨fun pins s σ H D I h => plainObj_wpAny_Assign_Attribute (thn (he.run pins s σ H _ I h) fun v s1 r => ?_) hs⟩
  obtain ⟨y, H1, I1, r1, q1⟩ := r
  refine thn (ho.run pins s1 σ H1 _ I1 q1) fun u s2 r => ?_
  obtain ⟨x, H2, I2, r2, a, C, B, newId, ex, T, hno, q⟩ := r
  subst ex
  obtain rfl : u = Value.ref a := r2
  rcases q with ⟨ea, q⟩ | ⟨dx, fs, ea, ed, hl, q⟩
  · exact st_first T I2 ea hno r1 fun dx s' n ne J => ⟨σ, _, J, q dx n ne⟩
  · exact st_more T I2 ea ed hl hno r1 fun s' J => ⟨σ, _, J, q⟩

/-! ### C(e, ..): raised, or kept as a value -/
section
variable {X : Cx} {pins : List (Addr × Obj)} {σ : L2.St} {o e : Expr} {es : List Expr} {te : TE} {ta : TA} {f : Str} {p pos : Pos} {bmB : List Value} {B newId initId : String} {CX : CXT} {x : Str} {C fI : Addr} {k : Nat} {fd : FuncData} {ps : List Str} {sp : Sp} {ds : List Value} {dvs : List V}
/-- the class called, its own __init__ keeping sp -/
theorem er_core {kw : List (Str × Value)} {bv : Addr → List V} (F : ExcBaseFacts B newId initId bmB) (T : ErC X.K C B newId) (iC : PySem.W.findIn X.K (.ref C) "__init__" = some (some (.ref fI))) (tI : PySem.W.typeIn X.K (.ref fI) = some (.type "function")) (F1 : FnOk X.prog X.w X.K X.mg X.base CX k fI fd ps sp)
    (hr : Room (k + 1) X.A) (hx : Passes CX X (fun _ _ _ => False)) {H1 : Hp} {s1 : Shared} {vs : List V} {us : List Value} {Qx : Addr → VK} {P : Value → Shared → Prop} (I1 : Inv X pins σ H1 s1) (r1 : Vals vs us) (hz : vs.length ≤ 1000)
    (hb : ∀ (a : Addr) (s0 : Shared), X.K.In s0.heap → (bv a).length = ps.length → ∃ bd, BindsTo s0 fd ⟨.ref a :: us, kw⟩ (ps.zip bd) ∧ Vals (bv a) bd)
    (q1 : ∀ a, H1 a = none → sp (bv a) (upd H1 a (exo a C none)) (Qx a) (fun _ _ _ => False))
    (fin : ∀ (a : Addr) (s0 s' : Shared), s1.heap.objs.size ≤ a → H1 a = none → Inv X pins σ (upd H1 a (exo a C none)) s0 → (∀ b o, s1.heap.get? b = some o → s0.heap.get? b = some o) → CE X.stack X.prog X.w (upd H1 a (exo a C none)) s0 (Qx a) .none s' → s0.os = s1.os → P (.ref a) s')
    (non : ∀ a v H2, Qx a v H2 → v = .non) : wpAny (model X.prog X.w) X.A (call (.ref C) us kw) P X.xe s1 := by
  obtain ⟨nm, q, N, bs, bm, sn, sub, ab, col, dd, k0, k1, k2, k3, k5, hC, TT⟩ := T.cls
  obtain ⟨hp, g, dr, tk, os⟩ := s1
  have hsz : hp.objs.size ≤ hp.objs.size + 1 := Nat.le_succ _
  have hn : H1 (hp.objs.size + 1) = none := I1.hok.fresh hsz
  have hq := q1 (hp.objs.size + 1) hn
  have kk : ∀ b o, hp.get? b = some o → ((hp.push (PySem.W.kdv_tup us)).push (PySem.HandSPX.excO C hp.objs.size)).get? b = some o := fun b o z => Heap.get?_push_of_some _ (Heap.get?_push_of_some _ z)
  have at1 : ((hp.push (PySem.W.kdv_tup us)).push (PySem.HandSPX.excO C hp.objs.size)).get? (hp.objs.size + 1) = some (PySem.HandSPX.excO C hp.objs.size) := by heap_get
  have I2 := I1.laid (t' := tk) (a := hp.objs.size + 1) (o := exo (hp.objs.size + 1) C none) (h' := (hp.push (PySem.W.kdv_tup us)).push (PySem.HandSPX.excO C hp.objs.size)) kk hsz (exo_ok at1)
  obtain ⟨bd, bt, r2⟩ := hb (hp.objs.size + 1) _ I2.kIn (F1.len _ _ _ _ hq)
  have hus : us.length ≤ sizeLine := by
    rw [← Paired.length r1, sizeLine_eq]
    omega
  have body := F1.run _ X.stack _ _ ⟨Value.ref (hp.objs.size + 1) :: us, kw⟩ bd _ _ (fun _ _ _ => False) (hr.make C us kw) (I2.env0.make C us kw) bt r2 hq
  refine wpAny_call (cls_call F TT (I1.kIn _ _ hC) (PySem.W.looks_findIn I1.kIn iC) (fun me => PySem.W.bind_fn I1.kIn me tI) hus (codeAny_mono body fun r s' z => ?_))
  cases r with
  | error er => exact hx pins σ _ _ er s' I2 z
  | ok fl =>
    cases fl with
    | ret u =>
      have e : u = .none := by
        obtain ⟨v, H2, _, _, _, _, rv, y⟩ := z
        have ev := non _ _ _ y
        subst ev
        exact rv
      subst e
      exact ⟨rfl, fin _ _ s' hsz hn I2 kk z rfl⟩
    | next => exact False.elim z
    | brk => exact False.elim z
    | cont => exact False.elim z
theorem bd_pos {us : List Value} {vs : List V} (hb : Binds X.K fd ps ds) (hd : Vals dvs ds) (r1 : Vals vs us) (a : Addr) (s0 : Shared) (hk : X.K.In s0.heap) (hl : (V.ref a :: (vs ++ dvs)).length = ps.length) :
    ∃ bd, BindsTo s0 fd ⟨.ref a :: us, []⟩ (ps.zip bd) ∧ Vals (V.ref a :: (vs ++ dvs)) bd := by
  have r2 : Vals (V.ref a :: (vs ++ dvs)) (Value.ref a :: (us ++ ds)) := .cons rfl (r1.append hd)
  exact ⟨_, hb s0 (.ref a :: us) hk (r2.length.symm.trans hl), r2⟩
/-- raised -/
theorem pmk_er (F : ExcBaseFacts B newId initId bmB) (T : ErC X.K C B newId) (iC : PySem.W.findIn X.K (.ref C) "__init__" = some (some (.ref fI))) (tI : PySem.W.typeIn X.K (.ref fI) = some (.type "function")) (F1 : FnOk X.prog X.w X.K X.mg X.base CX k fI fd ps sp)
    (hr : Room (k + 1) X.A) (hb : Binds X.K fd ps ds) (hd : Vals dvs ds) (hx : Passes CX X (fun _ _ _ => False)) (hg : Gl X x) (hm : X.mg x = some (.ref C)) (ha : PA X (e :: es) ta)
    (hdb : (x == ("__debug__" : Str)) = false := by decide) (he : starEach (e :: es) X.env = (false, eval e X.env) :: starEach es X.env := by rfl) (hpl : (backTo pos (starEach es X.env)).any (·.1) = false := by rfl) :
    PMk X (.Call (.Name x p) (e :: es) [] pos) (tMkO C sp dvs ta) := by
  intro pins s σ H Q I h
  refine wpAny_Call_Name_kw (ld_glob I hg hm (PySem.W.callWith_K (h₀ := X.base) I.ok.mod.kin T.kC (thn (ha.run pos pins s σ H _ I h) fun us s1 z => ?_) he hpl) hdb)
  obtain ⟨vs, H1, I1, r1, hz, q1⟩ := z
  refine ⟨I1.kIn, er_core F T iC tI F1 hr hx I1 r1 hz (bd_pos hb hd r1) q1 (fun a s0 s' ha hn I2 kk z _ => ?_) fun _ _ _ y => y.1⟩
  obtain ⟨hp, g, dr, tk, os⟩ := s1
  obtain ⟨hp0, g0, dr0, tk0, os0⟩ := s0
  obtain ⟨v, H2, os2, bare2, un2, hok2, _, _, d, fs, ea, ed, hd1, q2⟩ := z
  obtain ⟨h2, g2, d2, t2, os'⟩ := s'
  exact mk_end (raises_own T.exC T.tyC) I1 ha kk un2 hok2 (by first | exact os2 | exact os2.trans ‹_›) bare2 ea ed hd1 q2
/-- kept as a value -/
def tEr (C : Addr) (sp : Sp) (dvs : List V) (ta : TA) : TE := fun σ H Q => ta σ H fun vs H1 => vs.length ≤ 1000 ∧ ∀ a, H1 a = none → sp (.ref a :: (vs ++ dvs)) (upd H1 a (exo a C none)) (fun v H2 => v = .non ∧ Q (.ref a) H2) (fun _ _ _ => False)
theorem pe_er (F : ExcBaseFacts B newId initId bmB) (T : ErC X.K C B newId) (iC : PySem.W.findIn X.K (.ref C) "__init__" = some (some (.ref fI))) (tI : PySem.W.typeIn X.K (.ref fI) = some (.type "function")) (F1 : FnOk X.prog X.w X.K X.mg X.base CX k fI fd ps sp)
    (hr : Room (k + 1) X.A) (hb : Binds X.K fd ps ds) (hd : Vals dvs ds) (hx : Passes CX X (fun _ _ _ => False)) (hg : Gl X x) (hm : X.mg x = some (.ref C)) (ha : PA X (e :: es) ta)
    (hdb : (x == ("__debug__" : Str)) = false := by decide) (he : starEach (e :: es) X.env = (false, eval e X.env) :: starEach es X.env := by rfl) (hpl : (backTo pos (starEach es X.env)).any (·.1) = false := by rfl) :
    PE X (.Call (.Name x p) (e :: es) [] pos) (tEr C sp dvs ta) := by
  refine ⟨fun pins s σ H Q I h => ?_⟩
  refine wpAny_Call_Name_kw (ld_glob I hg hm (PySem.W.callWith_K (h₀ := X.base) I.ok.mod.kin T.kC (thn (ha.run pos pins s σ H _ I h) fun us s1 z => ?_) he hpl) hdb)
  obtain ⟨vs, H1, I1, r1, hz, q1⟩ := z
  refine ⟨I1.kIn, er_core F T iC tI F1 hr hx I1 r1 hz (bd_pos hb hd r1) q1 (fun a s0 s' ha hn I2 kk z _ => ?_) fun _ _ _ y => y.1⟩
  obtain ⟨v, H2, J, _, _, q2⟩ := I2.after z
  exact ⟨.ref a, H2, J, rfl, q2⟩
/-- C(k = v, ..) kept as a value -/
def tErK (C : Addr) (m : Nat) (sp : Sp) (gV : List V → List V → List V) (tk : TA) : TE := fun σ H Q => tk σ H fun zs H1 => zs.length = m ∧ ∀ a, H1 a = none → sp (gV [.ref a] zs) (upd H1 a (exo a C none)) (fun v H2 => v = .non ∧ Q (.ref a) H2) (fun _ _ _ => False)
theorem pe_erK {ks : List Str} {kws : List Keyword} {tk : TA} {g : List Value → List Value → List Value} {gV : List V → List V → List V} (F : ExcBaseFacts B newId initId bmB) (T : ErC X.K C B newId) (iC : PySem.W.findIn X.K (.ref C) "__init__" = some (some (.ref fI)))
    (tI : PySem.W.typeIn X.K (.ref fI) = some (.type "function")) (F1 : FnOk X.prog X.w X.K X.mg X.base CX k fI fd ps sp) (hr : Room (k + 1) X.A) (hb : KBn X.K fd ps 1 ks g gV) (hx : Passes CX X (fun _ _ _ => False)) (hg : Gl X x) (hm : X.mg x = some (.ref C)) (hkw : PK X kws tk)
    (hall : (backToKw pos (keywordEach kws X.env)).all (·.1.isSome) = true := by rfl) (hks : (backToKw pos (keywordEach kws X.env)).filterMap (·.1) = ks := by rfl) (hdb : (x == ("__debug__" : Str)) = false := by decide)
    (hpl : ((backTo pos (starEach [] X.env)).any (·.1) || (backToKw pos (keywordEach kws X.env)).any (·.1.isNone)) = false := by rfl) :
    PE X (.Call (.Name x p) [] kws pos) (tErK C ks.length sp gV tk) := by
  refine ⟨fun pins s σ H Q I h => ?_⟩
  refine wpAny_Call_Name_kw (ld_glob I hg hm (PySem.W.callWith_KW0 (h₀ := X.base) I.ok.mod.kin T.kC hall ?_ hpl) hdb)
  refine thn (hkw.run pos pins s σ H _ I h) fun ws s1 z => ?_
  obtain ⟨zs, H1, I1, rz, l2, q1⟩ := z
  refine ⟨I1.kIn, ?_⟩
  rw [hks]
  have lw : ws.length = ks.length := rz.length.symm.trans l2
  show wpAny _ _ (call (Value.ref C) [] (ks.zip ws)) _ _ _
  refine er_core (vs := []) (bv := fun a => gV [.ref a] zs) F T iC tI F1 hr hx I1 .nil (by decide) (fun a s0 hk _ => ⟨_, hb.to s0 [.ref a] ws hk rfl lw, hb.rel (.cons rfl .nil) rz⟩) q1 (fun a s0 s' ha hn I2 kk z _ => ?_) fun _ _ _ y => y.1
  obtain ⟨v, H2, J, _, _, q2⟩ := I2.after z
  exact ⟨.ref a, H2, J, rfl, q2⟩
/-- a field of an error kept as a value -/
def tErF (K : PySem.W.Frag) (f : Str) (te : TE) : TE := fun σ H Q => te σ H fun x H1 => ∃ (a C d : Addr) (fs : List (Str × V)) (v : V), x = .ref a ∧ XfC K C ∧ PySem.W.findIn K (.ref C) f = some none ∧ H1 a = some (exo a C (some d)) ∧ H1 d = some (exd d fs) ∧ fs.lookup f = some v ∧ Q v H1
theorem pe_erf (he : PE X e te) (hb : attributeBase e f X.env (eval e X.env) = eval e X.env := by rfl) : PE X (.Attribute e f pos) (tErF X.K f te) := by
  refine ⟨fun pins s σ H Q I h => attr_of hb (thn (he.run pins s σ H _ I h) fun u s1 z => ?_)⟩
  obtain ⟨x, H1, I1, rx, a, C, d, fs, v, ex, T, hno, ea, ed, l, q⟩ := z
  subst ex
  obtain rfl : u = Value.ref a := rx
  obtain ⟨t1, ho⟩ := exo_at I1.hok ea
  obtain ⟨mA, hns, hr⟩ := exd_at I1.hok ed
  obtain ⟨od, hod, hl⟩ := lookIn_ns hns
  obtain ⟨u, hu, ru⟩ := RelO.some_of (v := v) (o := mA f) (by rw [← l]; exact hr f)
  exact HandSPX.exc_get I1.kIn (od := some od) ⟨ho, rfl, rfl, hod⟩ T.ga T.gg T.exC (PySem.W.findObj_own T.hdC hno rfl (by rw [hl, hu])) (handed_of ru) ⟨v, H1, I1.tok _, ru, q⟩
/-- isinstance of an error kept as a value -/
structure EisC (K : PySem.W.Frag) (C : Addr) : Prop where
  cl : (PySem.W.clsIn K C).isSome = true
  hg : PySem.W.findIn K (.ref C) "__getattribute__" = some (some (.builtin "BaseException.__getattribute__"))
  hk : PySem.W.findIn K (.ref C) "__getattr__" = some none
  hs : PySem.W.subIn K (.ref C) (.type "BaseException") = some true
  ha : PySem.W.findIn K (.ref C) "__class__" = some (some (.builtin "object.__class__"))
  hn : PySem.W.specialIn K (.builtin "object.__class__") "__get__" = some (some (.builtin "getset_descriptor.__get__"))
  ht : PySem.W.takesIn K (.builtin "object.__class__") = some true
  hm : PySem.W.mroIn K C (.type "object") = some true
def rIsEr (K : PySem.W.Frag) : List V → Hp → VK → Prop := fun xs H Q => ∃ (a C d : Addr) (fs : List (Str × V)) (c : V) (u : Value) (b : Bool), xs = [.ref a, c] ∧ ClsV c u ∧ EisC K C ∧ H a = some (exo a C (some d)) ∧ H d = some (exd d fs) ∧ PySem.W.kitOne K (.ref C) u = some b ∧ Q (.bl b) H
theorem call_isEr : CallR X (.builtin "isinstance") (rIsEr X.K) := by
  intro pins s σ H xs us Q I r h
  obtain ⟨a, C, d, fs, c, u, b, rfl, k, T, ea, ed, eb, q⟩ := h
  obtain ⟨u1, u2, rfl, r1, r2⟩ := vals2 r
  have e2 := k.eq r2
  subst e2
  obtain rfl : u1 = Value.ref a := r1
  obtain ⟨t1, ho⟩ := exo_at I.hok ea
  obtain ⟨mA, hns, hr⟩ := exd_at I.hok ed
  obtain ⟨od, hod, hl⟩ := lookIn_ns hns
  exact PySem.W.kia_one (PySem.W.kitx_exc (od := some od) T.cl T.hg T.hk T.hs T.ha T.hn T.ht T.hm) I.kIn ⟨ho, rfl, rfl, hod⟩ eb (fun z => nomatch z) fun tk => ⟨.bl b, H, I.tok tk, rfl, q⟩
end
end Xc
set_option maxRecDepth 100000
set_option maxHeartbeats 4000000
/-! Errors kept as values: made without an __init__ of their own, raised so; isinstance, == and != of them. -/
namespace Xc
open PySem PySem.Spec PyProof.Rows L2
/-- an error of the class C at a, with a dict or without -/
def ErV (H : Hp) (a C : Addr) : Prop := (∃ d fs, H a = some (exo a C (some d)) ∧ H d = some (exd d fs)) ∨ H a = some (ExO (.ref C) a)
section
variable {X : Cx} {pins : List (Addr × Obj)} {σ : L2.St} {H : Hp} {s : Shared} {a b C D : Addr}
theorem erV_inst (I : Inv X pins σ H s) (h : ErV H a C) : ∃ ox od, PySem.W.InstAt s.heap a ox C od := by
  rcases h with ⟨d, fs, ea, ed⟩ | ea
  · obtain ⟨t1, ho⟩ := exo_at I.hok ea
    obtain ⟨mA, hns, hr⟩ := exd_at I.hok ed
    obtain ⟨od, hod, hl⟩ := lookIn_ns hns
    exact ⟨_, some od, ho, rfl, rfl, hod⟩
  · obtain ⟨⟨oe, vs, ho, hz, hd, _⟩, _, _⟩ := I.hok a _ ea
    obtain ⟨oc, od, dt, sl⟩ := oe
    obtain ⟨z1, z2⟩ := hz
    dsimp only at z1 z2 hd
    subst z1 z2 hd
    exact ⟨_, none, ho, rfl, rfl, trivial⟩
theorem ErV.ex {H' : Hp} (h : ErV H a C) (e : Evl.Ex H H') : ErV H' a C := by
  rcases h with ⟨d, fs, ea, ed⟩ | ea
  · exact .inl ⟨d, fs, e _ _ ea, e _ _ ed⟩
  · exact .inr (e _ _ ea)
end

/-! ### C() and raise C(), C without an __init__ of its own -/
section
variable {X : Cx} {C : Addr} {bmB : List Value} {B newId initId : String} {x : Str} {p pos : Pos}
theorem pe_exc0 (F : ExcBaseFacts B newId initId bmB) (q : PySem.W.excIn X.K C bmB newId = true) (gC : X.mg x = some (.ref C)) (kC : PySem.W.keepIn X.K (.ref C) = true) (hg : Gl X x) (hdb : (x == ("__debug__" : Str)) = false := by decide) :
    PE X (.Call (.Name x p) [] [] pos) (fun _ H Q => ∀ a, H a = none → Q (.ref a) (upd H a (ExO (.ref C) a))) := by
  refine ⟨fun pins s σ H Q I h => ?_⟩
  refine wpAny_Call_Name_kw (ld_glob I hg gC (PySem.W.callWith_K0 I.kIn kC ?_) hdb)
  obtain ⟨bm, N, nm, qn, bs, hdct, sn, sub, ab, col, dd, k0, k1, k2, k3, k5, mN, hC, hN, hni, T⟩ := exc_obj I.kIn q
  refine wpAny_call_exc_subT F T hC hN hni (fun h' a hm => ?_) (by decide)
  have hn : H a = none := I.hok.gone hm.new
  obtain ⟨t, ht, _, _⟩ := hm.there
  exact ⟨.ref a, upd H a (ExO (.ref C) a), I.laidN hm.keeps hm.new hn (exO_ok ht ⟨rfl, rfl⟩ rfl rfl rfl (show 4 < 6 by decide)), rfl, h a hn⟩
theorem pmk_exc0 (F : ExcBaseFacts B newId initId bmB) (q : PySem.W.excIn X.K C bmB newId = true) (gC : X.mg x = some (.ref C)) (kC : PySem.W.keepIn X.K (.ref C) = true) (r : Raises X (.ref C)) (hg : Gl X x) (hdb : (x == ("__debug__" : Str)) = false := by decide) :
    PMk X (.Call (.Name x p) [] [] pos) (fun _ H Q => Q (.ref C) none H) := by
  intro pins s σ H Q I h
  refine wpAny_Call_Name_kw (ld_glob I hg gC (PySem.W.callWith_K0 I.kIn kC ?_) hdb)
  obtain ⟨bm, N, nm, qn, bs, hdct, sn, sub, ab, col, dd, k0, k1, k2, k3, k5, mN, hC, hN, hni, T⟩ := exc_obj I.kIn q
  exact wpAny_call_exc_subT F T hC hN hni (fun h' e hm => mk_of I hm r h (I.hok.gone hm.new)) (by decide)
end

/-! ### isinstance -/
def rIsEv (K : PySem.W.Frag) : List V → Hp → VK → Prop := fun xs H Q => ∃ (a C : Addr) (c : V) (u : Value) (b : Bool), xs = [.ref a, c] ∧ ClsV c u ∧ EisC K C ∧ ErV H a C ∧ PySem.W.kitOne K (.ref C) u = some b ∧ Q (.bl b) H
theorem call_isEv {X : Cx} : CallR X (.builtin "isinstance") (rIsEv X.K) := by
  intro pins s σ H xs us Q I r h
  obtain ⟨a, C, c, u, b, rfl, k, T, ea, eb, q⟩ := h
  obtain ⟨u1, u2, rfl, r1, r2⟩ := vals2 r
  have e2 := k.eq r2
  subst e2
  obtain rfl : u1 = Value.ref a := r1
  obtain ⟨ox, od, J⟩ := erV_inst I ea
  exact PySem.W.kia_one (PySem.W.kitx_exc (od := od) T.cl T.hg T.hk T.hs T.ha T.hn T.ht T.hm) I.kIn J eb (fun z => nomatch z) fun tk => ⟨.bl b, H, I.tok tk, rfl, q⟩

/-! ### == and != of two errors: they are not the same -/
structure EqC (K : PySem.W.Frag) (C : Addr) : Prop where
  mo : PySem.W.mroIn K C (.type "object") = some true
  eq : PySem.W.findIn K (.ref C) "__eq__" = some (some (.builtin "object.__eq__"))
  ne : PySem.W.findIn K (.ref C) "__ne__" = some (some (.builtin "object.__ne__"))
section
variable {M : Model} {prog : Program} {w : World} {A : Around} {E : Value → Shared → Prop} {s : Shared} {K : PySem.W.Frag} {x y C D : Addr} {ox oy : Obj} {od oe : Option Obj}
theorem inst_nt (I : PySem.W.InstAt s.heap x ox C od) : ox.cls ≠ .type "tuple" := by
  rw [I.cls]
  nofun
theorem eq_special {Q : Option Value → Shared → Prop} (T : EqC K C) (X : K.In s.heap) (I : PySem.W.InstAt s.heap x ox C od) (hy : s.heap.get? y = some oy) (hxy : x ≠ y) (hq : Q (some .notImplemented) s) :
    wpAny (model prog w) A (callSpecialIfBound? (.ref x) "__eq__" [.ref y]) Q E s :=
  HN.ifBound_objEq X I T.eq (wpAny_call (codeAny_call_builtin F.cmp_object.eq.plain F.cmpEntry_eq (PySem.W.check_slot F.cmpKind_eq F.cmpSplit_eq (I.type.andThen (PySem.W.looks_mroIn X T.mo)) (F.cmpArgs_eq _ _) (objEq_entry_other hxy I.at_ hy (inst_nt I) hq))))
theorem ne_bound {args : List Value} {Q : Option Value → Shared → Prop} (X : K.In s.heap) (I : PySem.W.InstAt s.heap x ox C od) (T : EqC K C) (h : wpAny M A (call (.builtin "object.__ne__") (.ref x :: args)) (fun v => Q (some v)) E s) :
    wpAny M A (callSpecialIfBound? (.ref x) "__ne__" args) Q E s := by
  simp only [callSpecialIfBound?, bindSpecialIfBound?]
  refine wpAny_holding (wpAny_bind (wpAny_bind (wpAny_bind (I.type.here ((PySem.W.looks_findIn X T.ne).here ?_)))))
  refine wpAny_bind (wpAny_askSetting (wpAny_ite ?_))
  have fin : wpAny M A (call (.builtin "object.__ne__") ([.ref x] ++ args) >>= fun v => pure (some v)) Q E s := wpAny_bind (wpAny_mono h (fun v s' z => wpAny_pure z) fun _ _ z => z)
  split
  · exact wpAny_bind (wpAny_of_eq (F.cmp_object.ne.bind _) (wpAny_pure (by exact fin)))
  · exact wpAny_tryCatch (wpAny_bind (wpAny_of_eq (F.cmp_object.ne.bind _) (wpAny_pure (by exact fin))))
theorem ne_entry {Q : Fin → Shared → Prop} (T : EqC K C) (X : K.In s.heap) (I : PySem.W.InstAt s.heap x ox C od) (hy : s.heap.get? y = some oy) (hxy : x ≠ y) (hu : A.units < cLine) (hq : Q (.done (.ret .notImplemented)) s) :
    wpAny (model prog w) A (Builtin.«object.__ne__» ⟨[.ref x, .ref y], []⟩) Q E s := by
  unfold Builtin.«object.__ne__»
  repeat (first | with_reducible refine wpAny_cRoomFor hu ?_ | with_reducible refine eq_special T X I hy hxy ?_ | wp_step)
  exact hq
theorem ne_special {Q : Option Value → Shared → Prop} (T : EqC K C) (X : K.In s.heap) (I : PySem.W.InstAt s.heap x ox C od) (hy : s.heap.get? y = some oy) (hxy : x ≠ y) (hu : A.units + 1 < cLine) (hq : Q (some .notImplemented) s) :
    wpAny (model prog w) A (callSpecialIfBound? (.ref x) "__ne__" [.ref y]) Q E s :=
  ne_bound X I T (wpAny_call (codeAny_call_builtin F.cmp_object.ne.plain F.cmpEntry_ne (PySem.W.check_slot F.cmpKind_ne F.cmpSplit_ne (I.type.andThen (PySem.W.looks_mroIn X T.mo)) (F.cmpArgs_ne _ _) (ne_entry T X I hy hxy (by exact hu) hq))))
/-- the two ways of asking, and what both say -/
theorem rich_other {op : CmpOp} {f : Str} {Q : Value → Shared → Prop} (e : cmpInfo op = (if op = .Eq then "==" else "!=", f, f)) (hop : op = .Eq ∨ op = .NotEq) (hu : A.units < cLine) (X : K.In s.heap) (I : PySem.W.InstAt s.heap x ox C od) (J : PySem.W.InstAt s.heap y oy D oe) (hxy : x ≠ y)
    (hs : PySem.W.subIn K (.ref D) (.ref C) = some false)
    (one : ∀ {Q : Option Value → Shared → Prop}, Q none s → wpAny (model prog w) A (tryCompare (.ref x) f (.ref y)) Q E s) (two : ∀ {Q : Option Value → Shared → Prop}, Q none s → wpAny (model prog w) A (tryCompare (.ref y) f (.ref x)) Q E s)
    (hq : Q (.bool (decide (op = .NotEq))) s) : wpAny (model prog w) A (richCompare op (.ref x) (.ref y)) Q E s := by
  have same : ∀ {Q : Bool → Shared → Prop}, Q false s → wpAny (model prog w) A (isSame (.ref x) (.ref y)) Q E s := fun {Q} q => wpAny_isSame_ref_other hxy I.at_ J.at_ (inst_nt I) q
  rcases hop with rfl | rfl
  all_goals
    simp only [richCompare, e, oneThing_ref]
    refine wpAny_holding (wpAny_bind (wpAny_cRoomFor hu ?_))
    refine wpAny_bind (I.type.here (wpAny_bind (J.type.here ?_)))
    by_cases hCD : C = D
    · subst hCD
      rw [if_neg (by simp)]
      refine wpAny_bind (wpAny_pure ?_)
      simp only [Bool.false_eq_true, if_false, Bool.not_false, if_true]
      exact wpAny_bind (one (wpAny_bind (two (wpAny_bind (wpAny_rule (wpAny_bind (same (wpAny_pure hq))))))))
    · rw [if_pos (by simp [hCD])]
      refine wpAny_bind ((PySem.W.looks_subIn X hs).here ?_)
      simp only [Bool.false_eq_true, if_false, Bool.not_false, if_true]
      exact wpAny_bind (one (wpAny_bind (two (wpAny_bind (wpAny_rule (wpAny_bind (same (wpAny_pure hq))))))))
end
def rEr (K : PySem.W.Frag) (c : Bool) : R2 := fun x y H Q => ∃ a b C D, x = .ref a ∧ y = .ref b ∧ a ≠ b ∧ ErV H a C ∧ ErV H b D ∧ EqC K C ∧ EqC K D ∧ PySem.W.subIn K (.ref D) (.ref C) = some false ∧ Q (.bl c) H
theorem op_eqEr {X : Cx} (hu : X.A.units < cLine) : OpR X (compareOp .Eq) (rEr X.K false) := by
  intro pins s σ H x y v u Q I rx ry h
  obtain ⟨a, b, C, D, rfl, rfl, hab, ha, hb, TC, TD, hs, q⟩ := h
  obtain rfl : v = Value.ref a := rx
  obtain rfl : u = Value.ref b := ry
  obtain ⟨ox, od, J⟩ := erV_inst I ha
  obtain ⟨oy, oe, J2⟩ := erV_inst I hb
  refine rich_other (op := .Eq) (f := "__eq__") rfl (.inl rfl) hu I.kIn J J2 hab hs (fun {Q} q => ?_) (fun {Q} q => ?_) ⟨.bl false, H, I, rfl, q⟩
  · unfold tryCompare
    exact wpAny_bind (eq_special TC I.kIn J J2.at_ hab (wpAny_pure q))
  · unfold tryCompare
    exact wpAny_bind (eq_special TD I.kIn J2 J.at_ (Ne.symm hab) (wpAny_pure q))
theorem op_neEr {X : Cx} (hu : X.A.units + 1 < cLine) : OpR X (compareOp .NotEq) (rEr X.K true) := by
  intro pins s σ H x y v u Q I rx ry h
  obtain ⟨a, b, C, D, rfl, rfl, hab, ha, hb, TC, TD, hs, q⟩ := h
  obtain rfl : v = Value.ref a := rx
  obtain rfl : u = Value.ref b := ry
  obtain ⟨ox, od, J⟩ := erV_inst I ha
  obtain ⟨oy, oe, J2⟩ := erV_inst I hb
  refine rich_other (op := .NotEq) (f := "__ne__") rfl (.inr rfl) (Nat.lt_of_succ_lt hu) I.kIn J J2 hab hs (fun {Q} q => ?_) (fun {Q} q => ?_) ⟨.bl true, H, I, rfl, q⟩
  · unfold tryCompare
    exact wpAny_bind (ne_special TC I.kIn J J2.at_ hab hu (wpAny_pure q))
  · unfold tryCompare
    exact wpAny_bind (ne_special TD I.kIn J2 J.at_ (Ne.symm hab) hu (wpAny_pure q))
end Xc
set_option maxRecDepth 100000
set_option maxHeartbeats 4000000
/-! What is asked of an error class, as one Bool over the written part; its __init__ that stores one field or two; the readings made short. -/
namespace Xc
open PySem PySem.Spec PyProof.Rows L2
open PySem.W in
def erB (K : Frag) (C : Addr) (newId : String) (tl : List Value) (fs : List Str) : Bool :=
  (match K.lookup C with
    | some ⟨.type "type", _, .cls cd, sl⟩ => (match cd.mro, sl.toList with
      | .ref C' :: bm, [_, _, _, _, some (.builtin n), _] => C' == C && n == newId && !cd.hasDel && cd.hasDict && over bm tl
      | _, _ => false)
    | _ => false) &&
  (findIn K (.ref C) "__setattr__" == some (some (.builtin "object.__setattr__")) && (subIn K (.ref C) (.type "BaseException") == some true && (typeIn K (.ref C) == some (.type "type") && (keepIn K (.ref C) &&
  (findIn K (.ref C) "__getattribute__" == some (some (.builtin "BaseException.__getattribute__")) && (findIn K (.ref C) "__getattr__" == some none && (hasDictIn K C && (findIn K (.ref C) "__class__" == some (some (.builtin "object.__class__")) &&
  (specialIn K (.builtin "object.__class__") "__get__" == some (some (.builtin "getset_descriptor.__get__")) && (takesIn K (.builtin "object.__class__") == some true && (mroIn K C (.type "object") == some true &&
  (findIn K (.ref C) "__eq__" == some (some (.builtin "object.__eq__")) && (findIn K (.ref C) "__ne__" == some (some (.builtin "object.__ne__")) && fs.all fun f => findIn K (.ref C) f == some none)))))))))))))
structure ErX (K : PySem.W.Frag) (C : Addr) (B newId : String) (fs : List Str) : Prop where
  c : ErC K C B newId
  x : XfC K C
  i : EisC K C
  e : EqC K C
  no : ∀ f ∈ fs, PySem.W.findIn K (.ref C) f = some none
theorem erB_cls {K : PySem.W.Frag} {C : Addr} {newId B : String} {tl : List Value} (t : Tail tl B) (h : (match K.lookup C with
    | some ⟨.type "type", _, .cls cd, sl⟩ => (match cd.mro, sl.toList with
      | .ref C' :: bm, [_, _, _, _, some (.builtin n), _] => C' == C && n == newId && !cd.hasDel && cd.hasDict && over bm tl
      | _, _ => false)
    | _ => false) = true) :
    ∃ nm q N bs bm sn sub ab col dd k0 k1 k2 k3 k5, K.lookup C = some (excClassObj nm q C N bs bm true sn sub ab col dd k0 k1 k2 k3 k5 newId) ∧ Tail bm B := by
  split at h
  · rename_i dd cd sl ho
    split at h
    · rename_i C' bm k0 k1 k2 k3 n k5 hm hs
      simp only [Bool.and_eq_true, beq_iff_eq, Bool.not_eq_true'] at h
      obtain ⟨⟨⟨⟨rfl, rfl⟩, hdel⟩, hdct⟩, ho2⟩ := h
      obtain ⟨nm, bs, mro, ns, qn, hd, sn, sub, ab, col, del⟩ := cd
      dsimp only at hm hdel hdct
      subst hm hdel hdct
      have hsl : sl = #[k0, k1, k2, k3, some (.builtin n), k5] := by
        obtain ⟨l⟩ := sl
        simp only at hs
        rw [hs]
      subst hsl
      exact ⟨nm, qn, ns, bs, bm, sn, sub, ab, col, dd, k0, k1, k2, k3, k5, ho, over_ok t bm ho2⟩
    · cases h
  · cases h
theorem erB_ok {K : PySem.W.Frag} {C : Addr} {newId B : String} {tl : List Value} {fs : List Str} (t : Tail tl B) (h : erB K C newId tl fs = true) : ErX K C B newId fs := by
  unfold erB at h
  simp only [Bool.and_eq_true, beq_iff_eq, List.all_eq_true] at h
  obtain ⟨h0, h1, h2, h3, h4, h5, h6, h7, h8, h9, h10, h11, h12, h13, h14⟩ := h
  refine ⟨⟨erB_cls t h0, h1, h2, h3, h4⟩, ⟨h5, h6, h2, h7⟩, ⟨?_, h5, h6, h2, h8, h9, h10, h11⟩, ⟨h11, h12, h13⟩, h14⟩
  obtain ⟨nm, q, N, bs, bm, sn, sub, ab, col, dd, k0, k1, k2, k3, k5, hC, _⟩ := erB_cls t h0
  unfold PySem.W.clsIn
  rw [hC]
  rfl

/-! ### the __init__ that stores what it is given -/
/-- one field -/
def spI (C : Addr) (f : Str) : Sp := fun vs H Q _ => ∃ a v, vs = [.ref a, v] ∧ H a = some (exo a C none) ∧ ∀ dx, H dx = none → dx ≠ a → Q .non (upd (upd H dx (exd dx [(f, v)])) a (exo a C (some dx)))
/-- two fields, f and then g -/
def spI2 (C : Addr) (f g : Str) : Sp := fun vs H Q _ => ∃ a v u, vs = [.ref a, v, u] ∧ H a = some (exo a C none) ∧ ∀ dx, H dx = none → dx ≠ a → Q .non (upd (upd (upd H dx (exd dx [(f, v)])) a (exo a C (some dx))) dx (exd dx [(g, u), (f, v)]))
/-- an error at a, of the class C, with these fields -/
def FldV (H : Hp) (a C : Addr) (fs : List (Str × V)) : Prop := ∃ d, H a = some (exo a C (some d)) ∧ H d = some (exd d fs)
theorem FldV.ex {H H' : Hp} {a C : Addr} {fs : List (Str × V)} (h : FldV H a C fs) (e : Evl.Ex H H') : FldV H' a C fs := by
  obtain ⟨d, h1, h2⟩ := h
  exact ⟨d, e _ _ h1, e _ _ h2⟩
theorem FldV.er {H : Hp} {a C : Addr} {fs : List (Str × V)} (h : FldV H a C fs) : ErV H a C := by
  obtain ⟨d, h1, h2⟩ := h
  exact .inl ⟨d, fs, h1, h2⟩
theorem heap1 {H : Hp} {a dx C : Addr} {fs : List (Str × V)} {o : HO} (na : H a = none) (nd : H dx = none) (ne : dx ≠ a) : upd (del (upd (upd (upd H a o) dx (exd dx fs)) a (exo a C (some dx))) a) dx (.xd fs) = upd H dx (.xd fs) := by
  funext b
  by_cases hd : b = dx
  · rw [hd, upd_same, upd_same]
  · rw [upd_ne hd, upd_ne hd]
    by_cases hb : b = a
    · rw [hb, del_same, na]
    · rw [del_ne hb, upd_ne hb, upd_ne hd, upd_ne hb]
theorem heap2 {H : Hp} {a dx C : Addr} {fs gs : List (Str × V)} {o : HO} (na : H a = none) (nd : H dx = none) (ne : dx ≠ a) :
    upd (del (upd (upd (upd (upd H a o) dx (exd dx fs)) a (exo a C (some dx))) dx (exd dx gs)) a) dx (.xd gs) = upd H dx (.xd gs) := by
  funext b
  by_cases hd : b = dx
  · rw [hd, upd_same, upd_same]
  · rw [upd_ne hd, upd_ne hd]
    by_cases hb : b = a
    · rw [hb, del_same, na]
    · rw [del_ne hb, upd_ne hd, upd_ne hb, upd_ne hd, upd_ne hb]
theorem upd_none {H : Hp} {a b : Addr} {o : HO} (h : upd H a o b = none) : H b = none ∧ b ≠ a := by
  by_cases e : b = a
  · rw [e, upd_same] at h
    cases h
  · rw [upd_ne e] at h
    exact ⟨h, e⟩
/-- raise C(v) -/
theorem mk1 {C : Addr} {f : Str} {H1 : Hp} {v : V} {Q : XK} (k : ∀ d, H1 d = none → Q (.ref C) (some d) (upd H1 d (.xd [(f, v)]))) : [v].length ≤ 1000 ∧ ∀ a, H1 a = none → spI C f (.ref a :: ([v] ++ [])) (upd H1 a (exo a C none))
    (fun v H2 => v = .non ∧ ∃ (d : Addr) (fs : List (Str × V)), H2 a = some (exo a C (some d)) ∧ H2 d = some (exd d fs) ∧ H1 d = none ∧ Q (.ref C) (some d) (upd (del H2 a) d (.xd fs))) (fun _ _ _ => False) := by
  refine ⟨by simp, fun a na => ⟨a, v, rfl, upd_same, fun dx nd ne => ⟨rfl, dx, [(f, v)], upd_same, ?_, (upd_none nd).1, ?_⟩⟩⟩
  · rw [upd_ne ne, upd_same]
  · rw [heap1 na (upd_none nd).1 ne]
    exact k dx (upd_none nd).1
/-- raise C(v, u) -/
theorem mk2 {C : Addr} {f g : Str} {H1 : Hp} {v u : V} {Q : XK} (k : ∀ d, H1 d = none → Q (.ref C) (some d) (upd H1 d (.xd [(g, u), (f, v)]))) : [v, u].length ≤ 1000 ∧ ∀ a, H1 a = none → spI2 C f g (.ref a :: ([v, u] ++ [])) (upd H1 a (exo a C none))
    (fun v H2 => v = .non ∧ ∃ (d : Addr) (fs : List (Str × V)), H2 a = some (exo a C (some d)) ∧ H2 d = some (exd d fs) ∧ H1 d = none ∧ Q (.ref C) (some d) (upd (del H2 a) d (.xd fs))) (fun _ _ _ => False) := by
  refine ⟨by simp, fun a na => ⟨a, v, u, rfl, upd_same, fun dx nd ne => ⟨rfl, dx, [(g, u), (f, v)], ?_, upd_same, (upd_none nd).1, ?_⟩⟩⟩
  · rw [upd_ne (Ne.symm ne), upd_same]
  · rw [heap2 na (upd_none nd).1 ne]
    exact k dx (upd_none nd).1
/-- C(v) as a value -/
theorem ob1 {C : Addr} {f : Str} {H1 : Hp} {v : V} {Q : VK} (k : ∀ a H2, Evl.Ex H1 H2 → H1 a = none → FldV H2 a C [(f, v)] → Q (.ref a) H2) (a : Addr) (na : H1 a = none) {E : XK} :
    spI C f [.ref a, v] (upd H1 a (exo a C none)) (fun v H2 => v = .non ∧ Q (.ref a) H2) E := by
  refine ⟨a, v, rfl, upd_same, fun dx nd ne => ⟨rfl, k a _ (fun x o hx => ?_) na ⟨dx, upd_same, by rw [upd_ne ne, upd_same]⟩⟩⟩
  rw [upd_ne (ne_of_none hx na), upd_ne (ne_of_none hx (upd_none nd).1), upd_ne (ne_of_none hx na)]
  exact hx
/-- C(v, u) as a value -/
theorem ob2 {C : Addr} {f g : Str} {H1 : Hp} {v u : V} {Q : VK} (k : ∀ a H2, Evl.Ex H1 H2 → H1 a = none → FldV H2 a C [(g, u), (f, v)] → Q (.ref a) H2) (a : Addr) (na : H1 a = none) {E : XK} :
    spI2 C f g [.ref a, v, u] (upd H1 a (exo a C none)) (fun v H2 => v = .non ∧ Q (.ref a) H2) E := by
  refine ⟨a, v, u, rfl, upd_same, fun dx nd ne => ⟨rfl, k a _ (fun x o hx => ?_) na ⟨dx, by rw [upd_ne (Ne.symm ne), upd_same], upd_same⟩⟩⟩
  have n0 := (upd_none nd).1
  rw [upd_ne (ne_of_none hx n0), upd_ne (ne_of_none hx na), upd_ne (ne_of_none hx n0), upd_ne (ne_of_none hx na)]
  exact hx
/-- C() as a value -/
theorem ob0 {C : Addr} {H1 : Hp} {Q : VK} (k : ∀ a H2, Evl.Ex H1 H2 → H1 a = none → ErV H2 a C → Q (.ref a) H2) (a : Addr) (na : H1 a = none) : Q (.ref a) (upd H1 a (ExO (.ref C) a)) :=
  k a _ (Evl.Ex.new na) na (.inr upd_same)
end Xc
namespace Xc
open PySem PySem.Spec PyProof.Rows L2
/-- which of these classes is one of which: all lie under E but N, which is a KeyError -/
def tabB (K : PySem.W.Frag) (cs : List Addr) (E N : Addr) : Bool :=
  decide cs.Nodup && (cs.all (fun c => cs.all fun d => PySem.W.exmOne K (.ref c) (.ref d) == some (c == d) && (PySem.W.kitOne K (.ref c) (.ref d) == some (c == d) && PySem.W.subIn K (.ref c) (.ref d) == some (c == d))) &&
  cs.all fun c => PySem.W.exmOne K (.ref c) (.ref E) == some (c != N) && (PySem.W.exmOne K (.ref c) (.type "KeyError") == some (c == N) && (PySem.W.kitOne K (.ref c) (.ref E) == some (c != N) && (PySem.W.kitOne K (.ref c) (.type "KeyError") == some (c == N) &&
    PySem.W.kitOne K (.ref c) (.type "ValueError") == some false))))
section
variable {K : PySem.W.Frag} {cs : List Addr} {E N : Addr}
theorem tab_nodup (h : tabB K cs E N = true) : cs.Nodup := by
  unfold tabB at h
  simp only [Bool.and_eq_true, decide_eq_true_eq] at h
  exact h.1
theorem tab_pair (h : tabB K cs E N = true) {c d : Addr} (hc : c ∈ cs) (hd : d ∈ cs) :
    PySem.W.exmOne K (.ref c) (.ref d) = some (c == d) ∧ PySem.W.kitOne K (.ref c) (.ref d) = some (c == d) ∧ PySem.W.subIn K (.ref c) (.ref d) = some (c == d) := by
  unfold tabB at h
  simp only [Bool.and_eq_true, List.all_eq_true, beq_iff_eq] at h
  exact h.2.1 c hc d hd
theorem tab_one (h : tabB K cs E N = true) {c : Addr} (hc : c ∈ cs) :
    PySem.W.exmOne K (.ref c) (.ref E) = some (c != N) ∧ PySem.W.exmOne K (.ref c) (.type "KeyError") = some (c == N) ∧ PySem.W.kitOne K (.ref c) (.ref E) = some (c != N) ∧ PySem.W.kitOne K (.ref c) (.type "KeyError") = some (c == N) ∧
    PySem.W.kitOne K (.ref c) (.type "ValueError") = some false := by
  unfold tabB at h
  simp only [Bool.and_eq_true, List.all_eq_true, beq_iff_eq] at h
  exact h.2.2 c hc
end
end Xc
set_option maxRecDepth 100000
set_option maxHeartbeats 4000000
/-! try with several except clauses, each with a name or without (the hand layer has several without, or one with). -/
namespace Xc
open PySem PySem.Spec PyProof.Rows L2
abbrev Cl := Value × Option Nat × (Addr → Value → Option Addr → TS)
/-- what the name of a clause adds: its slot holds the error in the suite, and nothing behind it -/
def named (j : Option Nat) (a : Addr) (t : TS) : TS := match j with
  | none => t
  | some i => fun D σ H => t { nx := fun σ' H' => D.nx (σ'.set i none) H', rt := D.rt, bk := fun σ' H' => D.bk (σ'.set i none) H', ct := fun σ' H' => D.ct (σ'.set i none) H' } (σ.set i (some (.ref a))) H
def wAll (K : PySem.W.Frag) (Wout : WX) (D : Ends) : List Cl → WX
  | [] => Wout
  | (c, j, ts) :: r => fun cls d σ H => ∃ b, PySem.W.exmOne K cls c = some b ∧ (b = true → ∀ a, H a = none → named j a (ts a cls d) D σ H) ∧ (b = false → wAll K Wout D r cls d σ H)
inductive Hds (X : Cx) : List ExceptHandler → List Cl → Prop
  | nil : Hds X [] []
  | bare {x : Str} {c : Value} {ts : Addr → Value → Option Addr → TS} {b₀ : Stmt} {suite : List Stmt} {np pos' : Pos} {hds : List ExceptHandler} {l : List Cl} (hc : Names X x c)
      (hsu : ∀ (a : Addr) (oe : Obj) (cls : Value) (d : Option Addr) (pn : List (Addr × Obj)), Zc cls d oe → (∃ vs, oe.data = .fields vs) → PSs (X.suite a ((a, oe) :: pn)) (b₀ :: suite) (ts a cls d)) (r : Hds X hds l) :
      Hds X (.ExceptHandler (some (.Name x np)) none (b₀ :: suite) pos' :: hds) ((c, none, ts) :: l)
  | as_ {x n : Str} {i : Nat} {c : Value} {ts : Addr → Value → Option Addr → TS} {b₀ : Stmt} {suite : List Stmt} {np pos' : Pos} {hds : List ExceptHandler} {l : List Cl} (hN : X.N.Nodup) (hi : X.N[i]? = some n) (hln : X.env.kindOf n = some .local) (hc : Names X x c)
      (hsu : ∀ (a : Addr) (oe : Obj) (cls : Value) (d : Option Addr) (pn : List (Addr × Obj)), Zc cls d oe → (∃ vs, oe.data = .fields vs) → PSs (X.suite a ((a, oe) :: pn)) (b₀ :: suite) (ts a cls d)) (r : Hds X hds l) :
      Hds X (.ExceptHandler (some (.Name x np)) (some n) (b₀ :: suite) pos' :: hds) ((c, some i, ts) :: l)
section
variable {X : Cx} {body : List Stmt} {h₀ : ExceptHandler} {hds : List ExceptHandler} {l : List Cl} {pos : Pos} {tb : WX → TS} {Wout : WX}
theorem ps_try_all (hs : X.stack = X.env :: X.outer) (hf : X.env.frame = some X.env.locals) (tk : Takes X Wout)
    (hb : ∀ (W : WX) (pn : List (Addr × Obj)) (xe : Value → Shared → Prop), Takes (X.tr pn xe) W → PassesOwn (model X.prog X.w) X.A X.env xe → PSs (X.tr pn xe) body (tb W))
    (hh : Hds X (h₀ :: hds) l) : PS X (.Try body (h₀ :: hds) [] [] pos) (fun D σ H => tb (wAll X.K Wout D l) D σ H) := by
  refine ⟨fun pins s σ H D I h => ?_⟩
  have ok := I.ok
  have hfr : X.A.frames = some (X.env :: X.outer) := by rw [ok.frames, hs]
  refine wpAny_Try_except (wpAny_mono ((hb (wAll X.K Wout D l) (X.pn ++ pins) (fun e s₁ => wpAny (model X.prog X.w) X.A (noteFrame e X.env) (fun _ s₂ => wpAny (model X.prog X.w) X.A (setFlight e none) (fun _ s₃ =>
    wpAny (model X.prog X.w) X.A (handleBy e X.env (h₀ :: hds)) (SP X pins D) X.xe s₃) X.xe s₂) X.xe s₁) (fun u s' xx => ?_) PassesOwn.looking).run [] s σ H D (I.toTry _) h) (fun f s1 hsp => ?_) (fun e s1 he => he))
  · obtain ⟨a, B, sI, pins', σ', H', cls, d, rfl, J', nb, up, sky, na, os, ag, w⟩ := xx
    have J : Inv X pins σ' H' sI := J'.ofTry ok
    have sky1 : Sky B (X.env :: X.outer) a (Zc cls d) X.env.locals s'.heap := by rw [← hs]; exact sky
    show wpAny (model X.prog X.w) X.A (noteFrame (.ref a) X.env) _ _ _
    refine Sky.land Zc.steady hfr hf sky1 fun h3 fl up3 => ?_
    have J3 : Inv X pins σ' H' { s' with heap := h3 } := J.landed nb fl.1 (up.trans up3) os ag
    obtain ⟨oe3, vs3, he3, hz3, hd3⟩ := fl.there
    have nfr : a ∉ frs (X.env :: X.outer) := fun hm => by
      obtain ⟨_, o', e', hnf⟩ := fl.2.2.1.mem hm
      rw [he3] at e'
      cases e'
      exact hnf _ hd3
    have nL : a ≠ X.env.locals := fun z => nfr (List.mem_filterMap.mpr ⟨X.env, List.mem_cons_self, by rw [hf, z]⟩)
    have nF : a ∉ X.fs := fun hm => by
      obtain ⟨e, he, q⟩ := List.mem_filterMap.mp hm
      exact nfr (List.mem_filterMap.mpr ⟨e, List.mem_cons_of_mem _ he, q⟩)
    have S3 := J3.suite he3 hd3 na nL nF
    have LT : PySem.W.Looks (model X.prog X.w) h3 (typeOf (.ref a)) cls := fun A Q E s k q => wpAny_typeOf_ref (k _ _ he3) (by rw [hz3.1]; exact q)
    have tested : ∀ {x : Str} {c : Value} {np : Pos} {Q : Value → Shared → Prop} {E : Value → Shared → Prop}, Names X x c → Q c { s' with heap := h3 } → wpAny (model X.prog X.w) (X.A.mark (some (.ref a))) (eval (.Name x np) X.env) Q E { s' with heap := h3 } := fun {x c np Q E} hc q => by
      obtain ⟨hg, hdbg, hm | ⟨hm, hv, hnn⟩⟩ := hc
      · exact ld_glob (X := X.suite a ((a, oe3) :: (X.pn ++ pins))) S3 hg hm q hdbg
      · exact ld_blt (X := X.suite a ((a, oe3) :: (X.pn ++ pins))) S3 hg hm hv q hnn hdbg
    have go : ∀ {hds' : List ExceptHandler} {l' : List Cl}, Hds X hds' l' → wAll X.K Wout D l' cls d σ' H' → wpAny (model X.prog X.w) X.A (handleBy (.ref a) X.env hds') (SP X pins D) X.xe { s' with heap := h3 } := by
      intro hds' l' hk
      induction hk with
      | nil =>
        intro w
        refine wpAny_handleBy_nil ?_
        obtain ⟨k1, k2, k3, oe, vs, T, oT, ts', he, hz, hd, h1, hr⟩ := id fl
        unfold PySem.passOn
        refine wpAny_bind (wpAny_field he hd h1 ?_)
        rw [if_neg (show ¬ ((Value.ref T == Value.none) = true) from by simp)]
        have fin : wpAny (model X.prog X.w) X.A (setFlight (.ref a) X.env.frame) (fun _ s4 => wpAny (model X.prog X.w) X.A (throw (.ref a) : Sem Flow) (SP X pins D) X.xe s4) X.xe { s' with heap := h3 } := by
          rw [hf]
          refine HandSPX.setFlight_upZ fl fun h4 hh4 up4 => wpAny_throw (tk _ _ ⟨a, B, sI, pins, σ', H', cls, d, rfl, J, nb, (up.trans up3).trans up4, .inr (.inr (by rw [hs]; exact hh4)), na, os, ag, w⟩)
        first
          | exact wpAny_bind (wpAny_pure (wpAny_bind fin))
          | exact wpAny_bind fin
      | @bare x c ts b₀ suite np pos' hds2 l2 hc hsu r ih =>
        intro w
        obtain ⟨b, hb1, hyes, hno⟩ := w
        refine wpAny_handleBy_cons (codeAny_handlers_test (tested hc ((PySem.W.exm_one (M := model X.prog X.w) (J3.kIn) LT hb1).here ?_))) (by intro q; cases q)
        cases b with
        | false => exact ih (hno rfl)
        | true =>
          refine codeAny_handlers_suite (HandSPX.lands_againZ fl fun h4 fl4 up4 => ?_)
          have J4 : Inv X pins σ' H' { s' with heap := h4 } := J.landed nb fl4.1 ((up.trans up3).trans up4) os ag
          obtain ⟨oe4, vs4, he4, hz4, hd4⟩ := fl4.there
          refine wpAny_mono ((hsu a oe4 cls d (X.pn ++ pins) hz4 ⟨_, hd4⟩).run [] _ _ H' _ (J4.suite he4 hd4 na nL nF) (hyes rfl a na)) (fun f s6 hsp => ?_) (fun _ _ z => False.elim z)
          cases f with
          | ret u =>
            obtain ⟨v6, σ6, H6, S6, r6, q6⟩ := hsp
            exact ⟨_, _, _, S6.unsuite ok, r6, q6⟩
          | next =>
            obtain ⟨σ6, H6, S6, q6⟩ := hsp
            exact ⟨_, _, S6.unsuite ok, q6⟩
          | brk =>
            obtain ⟨σ6, H6, S6, q6⟩ := hsp
            exact ⟨_, _, S6.unsuite ok, q6⟩
          | cont =>
            obtain ⟨σ6, H6, S6, q6⟩ := hsp
            exact ⟨_, _, S6.unsuite ok, q6⟩
      | @as_ x n i c ts b₀ suite np pos' hds2 l2 hN hi hln hc hsu r ih =>
        intro w
        obtain ⟨b, hb1, hyes, hno⟩ := w
        refine wpAny_handleBy_cons (codeAny_handlers_test (tested hc ((PySem.W.exm_one (M := model X.prog X.w) (J3.kIn) LT hb1).here ?_))) (by intro q; cases q)
        cases b with
        | false => exact ih (hno rfl)
        | true =>
          refine codeAny_handlers_suite_as (HandSPX.lands_againZ fl fun h4 fl4 up4 => ?_)
          have J4 : Inv X pins σ' H' { s' with heap := h4 } := J.landed nb fl4.1 ((up.trans up3).trans up4) os ag
          obtain ⟨oe4, vs4, he4, hz4, hd4⟩ := fl4.there
          refine store_ok (X := X.suite a ((a, oe4) :: (X.pn ++ pins))) (v := .ref a) (J4.suite he4 hd4 na nL nF) hN hi (.inl hln) rfl (fun s5 S5 => ?_) (.inr hln)
          refine wpAny_mono ((hsu a oe4 cls d (X.pn ++ pins) hz4 ⟨_, hd4⟩).run [] s5 _ H' _ S5 (hyes rfl a na)) (fun f s6 hsp => ?_) (fun _ _ z => False.elim z)
          have shut : ∀ {σ6 : L2.St} {H6 : Hp} {Q : Shared → Prop}, Inv (X.suite a ((a, oe4) :: (X.pn ++ pins))) [] σ6 H6 s6 → (∀ s7, Inv X pins (σ6.set i none) H6 s7 → Q s7) →
              wpAny (model X.prog X.w) X.A (do bindName X.env n .none; unbindBehindTheSuite X.env n pos') (fun _ s7 => Q s7) X.xe s6 := fun {σ6 H6 Q} S6 hq => gone_ok (S6.unsuite ok) hN hi hln hq
          cases f with
          | ret u =>
            obtain ⟨v6, σ6, H6, S6, r6, q6⟩ := hsp
            exact shut S6 fun s7 J7 => ⟨_, _, _, J7, r6, q6⟩
          | next =>
            obtain ⟨σ6, H6, S6, q6⟩ := hsp
            exact shut S6 fun s7 J7 => ⟨_, _, J7, q6⟩
          | brk =>
            obtain ⟨σ6, H6, S6, q6⟩ := hsp
            exact shut S6 fun s7 J7 => ⟨_, _, J7, q6⟩
          | cont =>
            obtain ⟨σ6, H6, S6, q6⟩ := hsp
            exact shut S6 fun s7 J7 => ⟨_, _, J7, q6⟩
    exact go hh w
  · cases f with
    | ret u =>
      obtain ⟨v, σ', H', J', r, q⟩ := hsp
      exact ⟨v, σ', H', J'.ofTry ok, r, q⟩
    | next =>
      obtain ⟨σ', H', J', q⟩ := hsp
      exact wpAny_execs_nil ⟨σ', H', J'.ofTry ok, q⟩
    | brk =>
      obtain ⟨σ', H', J', q⟩ := hsp
      exact ⟨σ', H', J'.ofTry ok, q⟩
    | cont =>
      obtain ⟨σ', H', J', q⟩ := hsp
      exact ⟨σ', H', J'.ofTry ok, q⟩
end
end Xc
set_option maxRecDepth 100000
set_option maxHeartbeats 4000000
/-! int(text) of up to 4300 digits (the hand layer has 640); text * number. -/
namespace Lg
open PySem PySem.Calls PySem.NumText PyProof.Rows PySem.W
theorem wp_long {M : Model} {A : Around} {E : Value → Shared → Prop} {s : Shared} {Q : Value → Shared → Prop} {v : Value} {text : List Nat} {n : Int} (ld : Looks M s.heap (nsGet cStatics "sys.int_max_str_digits") none)
    (hs : ¬ (text.takeWhile (· != 0)).length ≤ 640) (hr : (int_private% "readNumeral") 4300 10 (text.takeWhile (· != 0)) = (int_private% "Numeral.value") n)
    (ha : ((text.takeWhile (· != 0)).length == text.length) = true) (h : Q (.int n s.toks) { s with toks := s.toks + 1 }) : wpAny M A ((int_private% "intFromText") v text 10) Q E s := by
  obtain ⟨hp, g, d, tk, os⟩ := s
  have hf : decide ((text.takeWhile (· != 0)).length ≤ 640) = false := decide_eq_false hs
  repeat (any_goals (first
    | assumption
    | (with_reducible refine wpAny_ite_true (decide_eq_true ha) ?_)
    | (with_reducible refine ld.at ?_)
    | wp_step))
  all_goals (try rw [hr])
  all_goals (try dsimp only)
  repeat (any_goals (first
    | assumption
    | (with_reducible refine wpAny_ite_true ha ?_)
    | wp_step))
theorem meets_long {x : PySem.Str} {u : Tok} {n : Int} (hs : ¬ (numSeenOf x).length ≤ 640) (hr : (int_private% "readNumeral") 4300 10 (numSeenOf x) = (int_private% "Numeral.value") n) (ha : ((numSeenOf x).length == (numTextOf x).length) = true) :
    Meets (Builtin.«int.__new__» ⟨[.type "int", .str x u], []⟩) (fun _ R s => (∀ M, Looks M s.heap (nsGet cStatics "sys.int_max_str_digits") none) ∧ R (.ok (.ret (.int n s.toks))) { s with toks := s.toks + 1 }) := by
  intro prog w A R s h
  obtain ⟨hp, g, d, tk, os⟩ := s
  obtain ⟨ld, h⟩ := h
  have f1 := F.conv_sub_int
  have f2 := F.madeHere_int
  have f3 := KIN.str_int
  have f4 := KIN.str_idx
  have f5 := KIN.str_trunc
  have f6 : typeOf (.str x u) = pure (.type "str") := rfl
  have hk := KIN.Hid.mk (And.intro hs (And.intro hr ha))
  have hl := KIN.Hid.mk (ld (model prog w))
  clear hs hr ha ld
  repeat (any_goals (first
    | assumption
    | ((with_reducible show wpAny _ _ ((int_private% "intFromText") _ _ _) _ _ _); refine wp_long hl.out hk.out.1 hk.out.2.1 hk.out.2.2 ?_)
    | wp_step))
theorem call_long {prog : Program} {w : World} {A : Around} {E : Value → Shared → Prop} {s : Shared} {Q : Value → Shared → Prop} {x : PySem.Str} {t : Tok} {n : Int} (ld : ∀ M, Looks M s.heap (nsGet cStatics "sys.int_max_str_digits") none) (hn : PySem.intText? x = some n) (hx : x.length ≤ 4300)
    (h : Q (.int n s.toks) { s with toks := s.toks + 1 }) : wpAny (model prog w) A (call (.type "int") [.str x t]) Q E s := by
  by_cases hs : (numSeenOf x).length ≤ 640
  · have hk : (int_private% "readNumeral") 0 10 (numSeenOf x) = (int_private% "Numeral.value") n ∧ ((numSeenOf x).length == (numTextOf x).length) = true := by
      rcases read0 x hs with ⟨m, h1, h2, h3⟩ | ⟨h1, _⟩
      · rw [hn] at h1
        injection h1 with h1
        subst h1
        exact ⟨h3, h2⟩
      · rw [hn] at h1
        cases h1
    refine call_int_1 (S := fun _ R s => R (.ok (.ret (.int n s.toks))) { s with toks := s.toks + 1 }) ?_ ⟨rfl, h⟩
    intro prog w A R s h
    obtain ⟨hp, g, d, tk, os⟩ := s
    have f1 := F.conv_sub_int
    have f2 := F.madeHere_int
    have f3 := KIN.str_int
    have f4 := KIN.str_idx
    have f5 := KIN.str_trunc
    have f6 : typeOf (.str x t) = pure (.type "str") := rfl
    have hh := KIN.Hid.mk (And.intro hs hk)
    clear hs hk hn hx
    repeat (any_goals (first
      | assumption
      | ((with_reducible show wpAny _ _ ((int_private% "intFromText") _ _ _) _ _ _); refine KIN.wp_text hh.out.1 hh.out.2.1 hh.out.2.2 ?_)
      | wp_step))
  · have hk : (int_private% "readNumeral") 4300 10 (numSeenOf x) = (int_private% "Numeral.value") n ∧ ((numSeenOf x).length == (numTextOf x).length) = true := by
      rcases read4300 x (Nat.le_trans hx (by rw [sizeLine_eq]; decide)) with ⟨m, h1, h2, h3⟩ | ⟨h1, _⟩
      · rw [hn] at h1
        injection h1 with h1
        subst h1
        exact ⟨h3, h2⟩
      · rw [hn] at h1
        cases h1
    exact call_int_1 (meets_long hs hk.1 hk.2) ⟨ld, ⟨rfl, h⟩⟩
end Lg
namespace Lg
open PySem PySem.Spec PyProof.Rows L2
section
variable {X : Cx}
/-- int(text) -/
theorem call_intLong (dig : PySem.W.nsIn X.K cStatics "sys.int_max_str_digits" = some none) : CallR X (.type "int") (fun xs H Q => ∃ a n, xs = [.str a] ∧ PySem.intText? a = some n ∧ a.length ≤ 4300 ∧ Q (.int n) H) := by
  intro pins s σ H xs us Q I rs h
  obtain ⟨a, n, rfl, hn, hl, h⟩ := h
  cases rs with
  | cons r1 rs =>
    cases rs
    obtain ⟨t, rfl⟩ := r1
    exact call_long (fun M => PySem.W.looks_nsIn I.kIn dig) hn hl ⟨.int n, H, I.tok _, ⟨_, rfl⟩, h⟩
/-- text * number -/
def repS (x : Str) (n : Nat) : Str := ⟨(List.replicate n x.cps).foldl (· ++ ·) #[]⟩
theorem repS_len (a : Str) (n : Nat) : (repS a n).length = a.length * n := by
  have key : ∀ (n : Nat) (acc : Array Nat), ((List.replicate n a.cps).foldl (· ++ ·) acc).size = acc.size + a.cps.size * n := by
    intro n
    induction n with
    | zero => intro acc; simp
    | succ n ih =>
      intro acc
      rw [List.replicate_succ, List.foldl_cons, ih, Array.size_append, Nat.mul_succ]
      omega
  show ((List.replicate n a.cps).foldl (· ++ ·) #[]).size = a.cps.size * n
  rw [key]
  simp
theorem op_repS : OpR X (binaryOp .Mult) (fun x y H Q => ∃ (a : Str) (n : Nat), x = .str a ∧ y = .int n ∧ 2 ≤ n ∧ n ≤ 5000 ∧ 1 ≤ a.length ∧ a.length ≤ 1000 ∧ Q (.str (repS a n)) H) := by
  intro pins s σ H x y v u Q I rx ry h
  obtain ⟨a, n, rfl, rfl, n2, n5, a1, a2, q⟩ := h
  obtain ⟨t, rfl⟩ := rx
  obtain ⟨t2, rfl⟩ := ry
  have b1 : ((n : Int) == 1 || a.length == 0) = false := by
    rw [Bool.or_eq_false_iff]
    exact ⟨beq_eq_false_iff_ne.mpr (by omega), beq_eq_false_iff_ne.mpr (by omega)⟩
  have le : a.length * n ≤ 5000000 := Nat.le_trans (Nat.mul_le_mul a2 n5) (by decide)
  refine PySem.P.mul_str (by rw [Bool.or_eq_false_iff]; exact ⟨decide_eq_false (by omega), decide_eq_false (by omega)⟩) (fun _ _ => ?_) (fun _ _ => ?_) ?_
  · have : (1000 : Int) ≤ (2 ^ 63 - 1) / (n : Int) := by
      refine (Int.le_ediv_iff_mul_le (by omega)).mpr ?_
      omega
    omega
  · rw [Int.toNat_natCast]
    exact decide_eq_false (by rw [sizeLine_eq]; omega)
  · rw [if_neg (by omega), if_neg (by rw [b1]; decide), Int.toNat_natCast]
    exact ⟨by show (repS a n).length ≤ sizeLine; rw [repS_len, sizeLine_eq]; omega, .str (repS a n), H, I.tok _, ⟨_, rfl⟩, q⟩
end
theorem repS_one (c n : Nat) : repS ⟨#[c]⟩ n = ⟨(List.replicate n c).toArray⟩ := by
  have key : ∀ (n : Nat) (acc : Array Nat), ((List.replicate n #[c]).foldl (· ++ ·) acc).toList = acc.toList ++ List.replicate n c := by
    intro n
    induction n with
    | zero => intro acc; simp
    | succ n ih =>
      intro acc
      rw [List.replicate_succ, List.foldl_cons, ih, Array.toList_append, List.replicate_succ]
      simp
  unfold repS
  have z := key n #[]
  rw [show (#[] : Array Nat).toList = [] from rfl, List.nil_append] at z
  exact congrArg Str.mk (by rw [← z])
end Lg
set_option maxRecDepth 100000
set_option maxHeartbeats 4000000
/-! a whole number times a text -/
namespace PySem
section
variable {M : Model} {A : Around} {E : Value → Shared → Prop} {s : Shared}
theorem wpAny_binaryOp1_left_declines {a b : Value} {T U nm id : String} {Q : Option Value → Shared → Prop} (hTU : (Value.type T == Value.type U) = false) (ha : s.TypeIs a T) (hb : s.TypeIs b U)
    (hfT : fillsNumberSlot (.type T) nm = pure true) (hfU : fillsNumberSlot (.type U) nm = pure false) (h : Slot T (dunder nm) id)
    (hc : wpAny M A (call (.builtin id) [a, b]) (fun v s' => v = .notImplemented ∧ Q none s') E s) : wpAny M A (binaryOp1 nm a b) Q E s := by
  simp only [binaryOp1]
  refine wpAny_bind (wpAny_typeOf ha (wpAny_bind (wpAny_typeOf hb (wpAny_bind (wpAny_of_eq hfT ?_)))))
  simp only [hTU, Bool.false_eq_true, if_false]
  refine wpAny_bind (wpAny_of_eq hfU ?_)
  simp only [pure_bind, Bool.and_false, Bool.false_and, Bool.false_eq_true, if_false, if_true]
  refine wpAny_bind (wpAny_tryMethod_declines ha h (wpAny_mono hc (fun v s' h' => ⟨h'.1, wpAny_pure h'.2⟩) fun _ _ e => e))
theorem seqSlot_not {T : String} {name : Str} {id : String} (hf : typeLookup (.type T) name = pure (some (.builtin id))) (hs : isSeqSlot (some (.builtin id)) = false) : seqSlot? (.type T) name = pure none := by
  simp only [seqSlot?, hf, pure_bind, hs]
  rfl
theorem repeat_int : seqRepeat? (.type "int") = pure none := by
  unfold seqRepeat?
  rw [seqSlot_not (T := "int") (name := "__mul__") (id := "int.__mul__") F.slot_int_mul.lookup (by decide +kernel), seqSlot_not (T := "int") (name := "__rmul__") (id := "int.__rmul__") F.slot_int_rmul.lookup (by decide +kernel)]
  rfl
end
section
variable {prog : Program} {w : World} {A : Around} {E : Value → Shared → Prop} {s : Shared} {x : Str} {n : Int} {t u : Tok}
open Builtin Builtin.Str Builtin.Int in
theorem mul_int_str {Q : Value → Shared → Prop} (hr : (decide (n < -(2 ^ 63 : Int)) || decide (n ≥ 2 ^ 63)) = false)
    (hb : ¬ n < 1 → (n == 1 || x.length == 0) = false → ¬ ((x.length : Int) > (2 ^ 63 - 1) / n)) (hl : ¬ n < 1 → (n == 1 || x.length == 0) = false → tooLong (x.length * n.toNat) = false)
    (h : (if n < 1 then Made.str Str.empty else if (n == 1 || x.length == 0) = true then Made.val (.str x t) else Made.str ⟨(List.replicate n.toNat x.cps).foldl (· ++ ·) #[]⟩).post Q s) :
    wpAny (model prog w) A (binaryOp .Mult (.int n u) (.str x t)) Q E s := by
  unfold binaryOp
  refine wpAny_holding ?_
  refine wpAny_bind (wpAny_binaryOp1_left_declines (nm := "mul") (T := "int") (U := "str") (by decide) (typeIs_int s n u) (typeIs_str s x t) F.fills_int_mul noFill_str_mul F.slot_int_mul
    (call_gives F.slot_int_mul (typeIs_int s n u) F.entry_int_mul (F.args_int_mul_2 _ _) (AutoIntG3.int___mul___int_str_0 n u x t) ⟨rfl, ?_⟩))
  refine wpAny_bind (wpAny_typeOf (typeIs_int s n u) ?_)
  refine wpAny_bind (wpAny_of_eq repeat_int ?_)
  refine wpAny_bind (wpAny_typeOf (typeIs_str s x t) ?_)
  refine wpAny_bind (wpAny_of_eq repeat_str ?_)
  unfold sequenceRepeat
  refine wpAny_bind (wpAny_specialOf (typeIs_int s n u) F.slot_int_index.lookup ?_)
  exact wpAny_bind (wpAny_rule (call_gives F.slot_str_mul (typeIs_str s x t) F.entry_str_mul (F.args_str_mul_2 _ _) (gives_str_mul x n t u hr hb hl) h))
end
end PySem
set_option maxRecDepth 100000
set_option maxHeartbeats 4000000
/-! The pure layer: values as trees, a def's body as a transformer of wishes over trees; no heap is seen. -/
namespace Pd
open PySem PySem.Spec PyProof.Rows L2 Pre

/-- a value with all that hangs on it -/
inductive D where
  | non | bl (b : Bool) | int (i : Int) | str (s : Str) | byt (b : Array UInt8)
  | lst (ds : List D) | tup (ds : List D)
  | dic (ks : List Key) (ds : List D)
  | obj (C : Addr) (ns : List Str) (ds : List D)
  | hid (φ : List V → Prop)
  | frz (ds : List D)
  | raw (v : V)

mutual
inductive Rep (K : PySem.W.Frag) (G : Hp) : V → D → Prop
  | non : Rep K G .non .non
  | bl (b : Bool) : Rep K G (.bl b) (.bl b)
  | int (i : Int) : Rep K G (.int i) (.int i)
  | str (s : Str) : Rep K G (.str s) (.str s)
  | byt (b : Array UInt8) : Rep K G (.byt b) (.byt b)
  | lst {a : Addr} {xs : List V} {ds : List D} (h : G a = some (.lst xs)) (r : RepA K G xs ds) : Rep K G (.ref a) (.lst ds)
  | tup {a : Addr} {xs : List V} {ds : List D} (h : SqT K G a xs) (r : RepA K G xs ds) : Rep K G (.ref a) (.tup ds)
  | dic {a : Addr} {kvs : List (Key × V)} {ks : List Key} {ds : List D} (h : G a = some (.dK kvs)) (e : kvs.map (·.1) = ks) (r : RepA K G (kvs.map (·.2)) ds) : Rep K G (.ref a) (.dic ks ds)
  | obj {a C dx : Addr} {fs : List (Str × V)} {ns : List Str} {ds : List D} (h : G a = some (.ins C dx fs)) (e : fs.map (·.1) = ns) (r : RepA K G (fs.map (·.2)) ds) : Rep K G (.ref a) (.obj C ns ds)
  | hid {a : Addr} {φ : List V → Prop} (h : G a = some (LstX a φ)) : Rep K G (.ref a) (.hid φ)
  | frz {a : Addr} {xs : List V} {ds : List D} (h : SqL K G a xs) (r : RepA K G xs ds) : Rep K G (.ref a) (.frz ds)
  | raw (v : V) : Rep K G v (.raw v)
inductive RepA (K : PySem.W.Frag) (G : Hp) : List V → List D → Prop
  | nil : RepA K G [] []
  | cons {v : V} {vs : List V} {d : D} {ds : List D} (h : Rep K G v d) (r : RepA K G vs ds) : RepA K G (v :: vs) (d :: ds)
end

mutual
theorem Rep.ex {K : PySem.W.Frag} {G G' : Hp} (e : Ex G G') : ∀ {v : V} {d : D}, Rep K G v d → Rep K G' v d
  | _, _, .non => .non
  | _, _, .bl b => .bl b
  | _, _, .int i => .int i
  | _, _, .str s => .str s
  | _, _, .byt b => .byt b
  | _, _, .lst h r => .lst (e _ _ h) (RepA.ex e r)
  | _, _, .tup h r => .tup (ext e h) (RepA.ex e r)
  | _, _, .dic h q r => .dic (e _ _ h) q (RepA.ex e r)
  | _, _, .obj h q r => .obj (e _ _ h) q (RepA.ex e r)
  | _, _, .hid h => .hid (e _ _ h)
  | _, _, .frz h r => .frz (exl e h) (RepA.ex e r)
  | _, _, .raw v => .raw v
theorem RepA.ex {K : PySem.W.Frag} {G G' : Hp} (e : Ex G G') : ∀ {vs : List V} {ds : List D}, RepA K G vs ds → RepA K G' vs ds
  | _, _, .nil => .nil
  | _, _, .cons h r => .cons (Rep.ex e h) (RepA.ex e r)
end

section
variable {K : PySem.W.Frag} {G : Hp}
theorem RepA.len : ∀ {vs : List V} {ds : List D}, RepA K G vs ds → vs.length = ds.length
  | _, _, .nil => rfl
  | _, _, .cons _ r => congrArg (· + 1) r.len
theorem RepA.get : ∀ {vs : List V} {ds : List D} {i : Nat} {d : D}, RepA K G vs ds → ds[i]? = some d → ∃ v, vs[i]? = some v ∧ Rep K G v d
  | _, _, i, _, .nil, e => by simp at e
  | _, _, 0, _, .cons h _, e => by
    obtain rfl := Option.some.inj (by simpa using e)
    exact ⟨_, rfl, h⟩
  | _, _, i + 1, _, .cons _ r, e => by
    obtain ⟨v, h1, h2⟩ := r.get (i := i) (by simpa using e)
    exact ⟨v, by simpa using h1, h2⟩
theorem RepA.getv : ∀ {vs : List V} {ds : List D} {i : Nat} {v : V}, RepA K G vs ds → vs[i]? = some v → ∃ d, ds[i]? = some d ∧ Rep K G v d
  | _, _, i, _, .nil, e => by simp at e
  | _, _, 0, _, .cons h _, e => by
    obtain rfl := Option.some.inj (by simpa using e)
    exact ⟨_, rfl, h⟩
  | _, _, i + 1, _, .cons _ r, e => by
    obtain ⟨v, h1, h2⟩ := r.getv (i := i) (by simpa using e)
    exact ⟨v, by simpa using h1, h2⟩
theorem RepA.app : ∀ {vs us : List V} {ds es : List D}, RepA K G vs ds → RepA K G us es → RepA K G (vs ++ us) (ds ++ es)
  | _, _, _, _, .nil, s => s
  | _, _, _, _, .cons h r, s => .cons h (r.app s)
theorem RepA.one {v : V} {d : D} (h : Rep K G v d) : RepA K G [v] [d] := .cons h .nil
theorem RepA.take : ∀ (n : Nat) {vs : List V} {ds : List D}, RepA K G vs ds → RepA K G (vs.take n) (ds.take n)
  | 0, _, _, _ => .nil
  | _ + 1, _, _, .nil => .nil
  | n + 1, _, _, .cons h r => .cons h (r.take n)
theorem RepA.drop : ∀ (n : Nat) {vs : List V} {ds : List D}, RepA K G vs ds → RepA K G (vs.drop n) (ds.drop n)
  | 0, _, _, r => r
  | _ + 1, _, _, .nil => .nil
  | n + 1, _, _, .cons h r => r.drop n
theorem RepA.set {v : V} {d : D} (h : Rep K G v d) : ∀ (n : Nat) {vs : List V} {ds : List D}, RepA K G vs ds → RepA K G (vs.set n v) (ds.set n d)
  | _, _, _, .nil => .nil
  | 0, _, _, .cons _ r => .cons h r
  | n + 1, _, _, .cons q r => .cons q (r.set h n)
theorem RepA.rev {vs : List V} {ds : List D} (h : RepA K G vs ds) : RepA K G vs.reverse ds.reverse := by
  induction h using RepA.rec (motive_1 := fun _ _ _ => True) with
  | nil => exact .nil
  | cons h r _ ih =>
    rw [List.reverse_cons, List.reverse_cons]
    exact ih.app (.one h)
  | _ => trivial
theorem RepA.ints {xs : List V} {ns : List Int} (h : RepA K G xs (ns.map D.int)) : xs = ns.map V.int := by
  induction ns generalizing xs with
  | nil => cases h; rfl
  | cons n ns ih =>
    cases h with
    | cons h r =>
      cases h
      rw [ih r]; rfl
theorem RepA.strs {xs : List V} {ns : List Str} (h : RepA K G xs (ns.map D.str)) : xs = ns.map V.str := by
  induction ns generalizing xs with
  | nil => cases h; rfl
  | cons n ns ih =>
    cases h with
    | cons h r =>
      cases h
      rw [ih r]; rfl
theorem RepA.bls {xs : List V} {ns : List Bool} (h : RepA K G xs (ns.map D.bl)) : xs = ns.map V.bl := by
  induction ns generalizing xs with
  | nil => cases h; rfl
  | cons n ns ih =>
    cases h with
    | cons h r =>
      cases h
      rw [ih r]; rfl
theorem repA_ints (ns : List Int) : RepA K G (ns.map V.int) (ns.map D.int) := by
  induction ns with
  | nil => exact .nil
  | cons n ns ih => exact .cons (.int n) ih
theorem repA_strs (ns : List Str) : RepA K G (ns.map V.str) (ns.map D.str) := by
  induction ns with
  | nil => exact .nil
  | cons n ns ih => exact .cons (.str n) ih
theorem Rep.int_inv {v : V} {i : Int} (h : Rep K G v (.int i)) : v = .int i := by cases h; rfl
theorem Rep.str_inv {v : V} {i : Str} (h : Rep K G v (.str i)) : v = .str i := by cases h; rfl
theorem Rep.bl_inv {v : V} {i : Bool} (h : Rep K G v (.bl i)) : v = .bl i := by cases h; rfl
theorem Rep.non_inv {v : V} (h : Rep K G v .non) : v = .non := by cases h; rfl
theorem Rep.tup_inv {v : V} {ds : List D} (h : Rep K G v (.tup ds)) : ∃ a xs, v = .ref a ∧ SqT K G a xs ∧ RepA K G xs ds := by cases h with | tup h r => exact ⟨_, _, rfl, h, r⟩
theorem Rep.lst_inv {v : V} {ds : List D} (h : Rep K G v (.lst ds)) : ∃ a xs, v = .ref a ∧ G a = some (.lst xs) ∧ RepA K G xs ds := by cases h with | lst h r => exact ⟨_, _, rfl, h, r⟩
end

/-! ### how view and heap grow -/
structure Grow (G H G' H' : Hp) : Prop where
  g : Ex G G'
  h : Ex H H'
  gh : Ex G' H'
  nw : ∀ p, H p ≠ none → G' p = G p
theorem Grow.refl {G H : Hp} (e : Ex G H) : Grow G H G H := ⟨ex0, ex0, e, fun _ _ => rfl⟩
theorem Grow.trans {G H G1 H1 G2 H2 : Hp} (a : Grow G H G1 H1) (b : Grow G1 H1 G2 H2) : Grow G H G2 H2 :=
  ⟨a.g.trans b.g, a.h.trans b.h, b.gh, fun p h => (b.nw p fun z => by
    cases q : H p with
    | none => exact h q
    | some o => rw [a.h _ _ q] at z; cases z).trans (a.nw p h)⟩
theorem Grow.new {G H : Hp} {p : Addr} {o : HO} (e : Ex G H) (n : H p = none) : Grow G H (upd G p o) (upd H p o) := by
  have ng : G p = none := Evl.fresh_back e n
  refine ⟨exn ng, exn n, fun a u h => ?_, fun q hq => ?_⟩
  · by_cases z : a = p
    · subst z
      rw [upd_same] at h ⊢
      exact h
    · rw [upd_ne z] at h ⊢
      exact e _ _ h
  · rw [upd_ne (fun z => hq (by rw [z]; exact n))]
/-- a new object that the view does not have -/
theorem Grow.own {G H : Hp} {p : Addr} {o : HO} (e : Ex G H) (n : H p = none) : Grow G H G (upd H p o) :=
  ⟨ex0, exn n, e.trans (exn n), fun _ _ => rfl⟩
/-- the view takes in what the heap has, where it was new -/
theorem Grow.see {G H G' H' : Hp} {p : Addr} {o : HO} (g : Grow G H G' H') (n : H p = none) (n' : G' p = none) (h : H' p = some o) : Grow G H (upd G' p o) H' := by
  refine ⟨g.g.trans (exn n'), g.h, fun a u k => ?_, fun q hq => ?_⟩
  · by_cases z : a = p
    · subst z
      rw [upd_same] at k
      rw [← k]
      exact h
    · rw [upd_ne z] at k
      exact g.gh _ _ k
  · rw [upd_ne (fun z => hq (by rw [z]; exact n))]
    exact g.nw q hq

/-! ### slots -/
structure Bs where
  G : Hp
  H : Hp
inductive Sl where
  | no | v (d : D) | l (ds : List D) | k (ks : List Key) (ds : List D) | i (q C : Addr) (ns : List Str) (ds : List D)
def Sl.own : Sl → Bool
  | .l _ => true
  | .k _ _ => true
  | .i _ _ _ _ => true
  | _ => false
section
variable (K : PySem.W.Frag)
/-- what is one's own, at p -/
def OwnAt (G H : Hp) (p : Addr) : Sl → Prop
  | .l ds => ∃ vs, H p = some (.lst vs) ∧ RepA K G vs ds
  | .k ks ds => ∃ kvs : List (Key × V), H p = some (.dK kvs) ∧ kvs.map (·.1) = ks ∧ RepA K G (kvs.map (·.2)) ds
  | .i q C ns ds => p = q ∧ ∃ (dx : Addr) (fs : List (Str × V)), H p = some (.ins C dx fs) ∧ fs.map (·.1) = ns ∧ RepA K G (fs.map (·.2)) ds
  | _ => False
def SlR (B : Bs) (G H : Hp) (o : Option V) : Sl → Prop
  | .no => True
  | .v d => ∃ v, o = some v ∧ Rep K G v d
  | s => ∃ p, o = some (.ref p) ∧ G p = none ∧ B.H p = none ∧ OwnAt K G H p s
structure Rel (B : Bs) (G : Hp) (σ : L2.St) (H : Hp) (env : List Sl) : Prop where
  bg : Ex B.G G
  bh : Ex B.H H
  gh : Ex G H
  nw : ∀ p, B.H p ≠ none → G p = B.G p
  len : σ.length = env.length
  sl : ∀ (i : Nat) o s, σ[i]? = some o → env[i]? = some s → SlR K B G H o s
  ds : ∀ (i j : Nat) (p : Addr) si sj, env[i]? = some si → env[j]? = some sj → si.own = true → sj.own = true → σ[i]? = some (some (.ref p)) → σ[j]? = some (some (.ref p)) → i = j
end
section
variable {K : PySem.W.Frag} {B : Bs} {G G' H H' : Hp} {σ : L2.St} {env : List Sl} {p : Addr}
theorem OwnAt.own {s : Sl} (h : OwnAt K G H p s) : s.own = true := by cases s <;> first | rfl | exact h.elim
theorem OwnAt.some {s : Sl} (h : OwnAt K G H p s) : ∃ o, H p = some o := by
  cases s with
  | l ds => obtain ⟨vs, h, _⟩ := h; exact ⟨_, h⟩
  | k ks ds => obtain ⟨vs, h, _⟩ := h; exact ⟨_, h⟩
  | i q C ns ds => obtain ⟨_, dx, vs, h, _⟩ := h; exact ⟨_, h⟩
  | no => exact h.elim
  | v d => exact h.elim
theorem OwnAt.mono {s : Sl} (h : OwnAt K G H p s) (e : Ex G G') (q : H' p = H p) : OwnAt K G' H' p s := by
  cases s with
  | l ds => obtain ⟨vs, h, r⟩ := h; exact ⟨vs, q.trans h, r.ex e⟩
  | k ks ds => obtain ⟨vs, h, z, r⟩ := h; exact ⟨vs, q.trans h, z, r.ex e⟩
  | i q' C ns ds => obtain ⟨y, dx, vs, h, z, r⟩ := h; exact ⟨y, dx, vs, q.trans h, z, r.ex e⟩
  | no => exact h.elim
  | v d => exact h.elim
theorem SlR.own {o : Option V} {s : Sl} (h : SlR K B G H o s) (q : s.own = true) : ∃ p, o = some (.ref p) ∧ G p = none ∧ B.H p = none ∧ OwnAt K G H p s := by
  cases s with
  | l ds => exact h
  | k ks ds => exact h
  | i q C ns ds => exact h
  | no => cases q
  | v d => cases q
theorem SlR.of {o : Option V} {s : Sl} (h : ∃ p, o = some (.ref p) ∧ G p = none ∧ B.H p = none ∧ OwnAt K G H p s) : SlR K B G H o s := by
  cases s with
  | l ds => exact h
  | k ks ds => exact h
  | i q C ns ds => exact h
  | no => trivial
  | v d => obtain ⟨_, _, _, _, z⟩ := h; exact z.elim
/-- the slots, where what they own stands as it was -/
theorem SlR.mono {o : Option V} {s : Sl} (h : SlR K B G H o s) (e : Ex G G') (q : ∀ p, o = .some (.ref p) → s.own = true → H' p = H p ∧ G' p = none) : SlR K B G' H' o s := by
  by_cases w : s.own = true
  · obtain ⟨p, e1, e2, e3, e4⟩ := h.own w
    obtain ⟨q1, q2⟩ := q p e1 w
    exact SlR.of ⟨p, e1, q2, e3, e4.mono e q1⟩
  · cases s with
    | l ds => exact (w rfl).elim
    | k ks ds => exact (w rfl).elim
    | i q C ns ds => exact (w rfl).elim
    | no => trivial
    | v d => obtain ⟨v, e1, r⟩ := h; exact ⟨v, e1, r.ex e⟩
theorem Rel.grow (R : Rel K B G σ H env) (g : Grow G H G' H') : Rel K B G' σ H' env where
  bg := R.bg.trans g.g
  bh := R.bh.trans g.h
  gh := g.gh
  nw := fun p h => (g.nw p fun z => by
    cases q : B.H p with
    | none => exact h q
    | some o => rw [R.bh _ _ q] at z; cases z).trans (R.nw p h)
  len := R.len
  sl := fun i o s h1 h2 => (R.sl i o s h1 h2).mono g.g fun p e1 w => by
    obtain ⟨p', e2, n, _, oa⟩ := (R.sl i o s h1 h2).own w
    rw [e1] at e2
    obtain rfl : p = p' := by injection e2 with e2; injection e2
    obtain ⟨u, hu⟩ := oa.some
    exact ⟨(g.h _ _ hu).trans hu.symm, (g.nw p (by rw [hu]; simp)).trans n⟩
  ds := R.ds
theorem Rel.start {vs : List V} {ds : List D} (e : Ex G H) (r : RepA K G vs ds) (n : Nat) : Rel K ⟨G, H⟩ G (vs.map some ++ List.replicate n none) H (ds.map Sl.v ++ List.replicate n Sl.no) where
  bg := ex0
  bh := ex0
  gh := e
  nw := fun _ _ => rfl
  len := by simp [r.len]
  sl := fun i o s h1 h2 => by
    by_cases hi : i < vs.length
    · rw [List.getElem?_append_left (by simpa using hi), List.getElem?_map] at h1
      rw [List.getElem?_append_left (by simpa [← r.len] using hi), List.getElem?_map] at h2
      cases hv : vs[i]? with
      | none => rw [hv] at h1; cases h1
      | some v =>
        obtain ⟨d, hd, rv⟩ := r.getv hv
        rw [hv] at h1
        rw [hd] at h2
        cases h1
        cases h2
        exact ⟨v, rfl, rv⟩
    · rw [List.getElem?_append_right (by simpa [← r.len] using hi)] at h2
      obtain rfl : s = .no := by
        rw [List.getElem?_replicate] at h2
        split at h2
        · exact (Option.some.inj h2).symm
        · cases h2
      trivial
  ds := fun i j p si sj h1 h2 o1 o2 _ _ => by
    exfalso
    have key : ∀ {i : Nat} {s : Sl}, (ds.map Sl.v ++ List.replicate n Sl.no)[i]? = some s → s.own = true → False := fun {i s} h w => by
      have m := List.mem_of_getElem? h
      rcases List.mem_append.mp m with m | m
      · obtain ⟨d, _, rfl⟩ := List.mem_map.mp m
        cases w
      · obtain rfl := List.eq_of_mem_replicate m
        cases w
    exact key h1 o1
theorem get_lt {α : Type} {l : List α} {i : Nat} {x : α} (h : l[i]? = some x) : i < l.length := (List.getElem?_eq_some_iff.mp h).1
/-- a slot is given a value -/
theorem Rel.setv (R : Rel K B G σ H env) {v : V} {d : D} (r : Rep K G v d) (i : Nat) : Rel K B G (σ.set i (some v)) H (env.set i (.v d)) where
  bg := R.bg
  bh := R.bh
  gh := R.gh
  nw := R.nw
  len := by simp [R.len]
  sl := fun j o s h1 h2 => by
    by_cases e : i = j
    · subst e
      have l2 := get_lt h2
      have l1 := get_lt h1
      rw [List.length_set] at l1 l2
      rw [List.getElem?_set_self l1] at h1
      rw [List.getElem?_set_self l2] at h2
      cases h1
      cases h2
      exact ⟨v, rfl, r⟩
    · rw [List.getElem?_set_ne e] at h1 h2
      exact R.sl j o s h1 h2
  ds := fun a b p sa sb h1 h2 w1 w2 k1 k2 => by
    have na : i ≠ a := fun e => by
      subst e
      have l2 := get_lt h1
      rw [List.length_set] at l2
      rw [List.getElem?_set_self l2] at h1
      cases h1
      cases w1
    have nb : i ≠ b := fun e => by
      subst e
      have l2 := get_lt h2
      rw [List.length_set] at l2
      rw [List.getElem?_set_self l2] at h2
      cases h2
      cases w2
    rw [List.getElem?_set_ne na] at h1 k1
    rw [List.getElem?_set_ne nb] at h2 k2
    exact R.ds a b p sa sb h1 h2 w1 w2 k1 k2
/-- a slot is forgotten -/
theorem Rel.setno (R : Rel K B G σ H env) (i : Nat) (o : Option V) : Rel K B G (σ.set i o) H (env.set i .no) where
  bg := R.bg
  bh := R.bh
  gh := R.gh
  nw := R.nw
  len := by simp [R.len]
  sl := fun j o s h1 h2 => by
    by_cases e : i = j
    · subst e
      have l2 := get_lt h2
      rw [List.length_set] at l2
      rw [List.getElem?_set_self l2] at h2
      cases h2
      trivial
    · rw [List.getElem?_set_ne e] at h1 h2
      exact R.sl j o s h1 h2
  ds := fun a b p sa sb h1 h2 w1 w2 k1 k2 => by
    have na : i ≠ a := fun e => by
      subst e
      have l2 := get_lt h1
      rw [List.length_set] at l2
      rw [List.getElem?_set_self l2] at h1
      cases h1
      cases w1
    have nb : i ≠ b := fun e => by
      subst e
      have l2 := get_lt h2
      rw [List.length_set] at l2
      rw [List.getElem?_set_self l2] at h2
      cases h2
      cases w2
    rw [List.getElem?_set_ne na] at h1 k1
    rw [List.getElem?_set_ne nb] at h2 k2
    exact R.ds a b p sa sb h1 h2 w1 w2 k1 k2
/-- a slot is given a thing of one's own that no slot holds -/
theorem Rel.seto (R : Rel K B G σ H env) {s : Sl} (oa : OwnAt K G H p s) (n : G p = none) (nb : B.H p = none) (fr : ∀ (j : Nat) t, env[j]? = some t → t.own = true → σ[j]? ≠ some (some (.ref p))) (i : Nat) :
    Rel K B G (σ.set i (some (.ref p))) H (env.set i s) where
  bg := R.bg
  bh := R.bh
  gh := R.gh
  nw := R.nw
  len := by simp [R.len]
  sl := fun j o s h1 h2 => by
    by_cases e : i = j
    · subst e
      have l2 := get_lt h2
      have l1 := get_lt h1
      rw [List.length_set] at l1 l2
      rw [List.getElem?_set_self l1] at h1
      rw [List.getElem?_set_self l2] at h2
      cases h1
      cases h2
      exact SlR.of ⟨p, rfl, n, nb, oa⟩
    · rw [List.getElem?_set_ne e] at h1 h2
      exact R.sl j o s h1 h2
  ds := fun a b q sa sb h1 h2 w1 w2 k1 k2 => by
    have key : ∀ {a b : Nat} {sb : Sl}, i = a → i ≠ b → (σ.set i (some (.ref p)))[a]? = some (some (.ref q)) → (env.set i s)[b]? = some sb → sb.own = true → (σ.set i (some (.ref p)))[b]? = some (some (.ref q)) → False := fun {a b sb} ea nb k1 h2 w2 k2 => by
      subst ea
      have l1 := get_lt k1
      rw [List.length_set] at l1
      rw [List.getElem?_set_self l1] at k1
      rw [List.getElem?_set_ne nb] at h2 k2
      cases k1
      exact fr b sb h2 w2 k2
    by_cases ea : i = a
    · by_cases eb : i = b
      · omega
      · exact (key ea eb k1 h2 w2 k2).elim
    · by_cases eb : i = b
      · exact (key eb ea k2 h1 w1 k1).elim
      · rw [List.getElem?_set_ne ea] at h1 k1
        rw [List.getElem?_set_ne eb] at h2 k2
        exact R.ds a b q sa sb h1 h2 w1 w2 k1 k2
/-- what a slot owns -/
theorem Rel.own (R : Rel K B G σ H env) {i : Nat} {s : Sl} (h : env[i]? = some s) (w : s.own = true) : ∃ p, σ[i]? = some (some (.ref p)) ∧ G p = none ∧ B.H p = none ∧ OwnAt K G H p s := by
  have l := get_lt h
  rw [← R.len] at l
  have e : σ[i]? = some σ[i] := List.getElem?_eq_getElem l
  obtain ⟨p, e1, e2, e3, e4⟩ := (R.sl i _ s e h).own w
  exact ⟨p, by rw [e, e1], e2, e3, e4⟩
theorem Rel.val (R : Rel K B G σ H env) {i : Nat} {d : D} (h : env[i]? = some (.v d)) : ∃ v, σ[i]? = some (some v) ∧ Rep K G v d := by
  have l := get_lt h
  rw [← R.len] at l
  have e : σ[i]? = some σ[i] := List.getElem?_eq_getElem l
  obtain ⟨v, e1, e2⟩ := R.sl i _ _ e h
  exact ⟨v, by rw [e, e1], e2⟩
/-- one's own changes -/
theorem Rel.mut (R : Rel K B G σ H env) {i : Nat} {s s' : Sl} {o : HO} (h : env[i]? = some s) (w : s.own = true) (hp : σ[i]? = some (some (.ref p))) (oa : OwnAt K G (upd H p o) p s') : Rel K B G σ (upd H p o) (env.set i s') := by
  obtain ⟨p', hp', n, nb, oa0⟩ := R.own h w
  rw [hp] at hp'
  obtain rfl : p = p' := by injection hp' with z; injection z with z; injection z
  refine ⟨R.bg, R.bh.mut nb, R.gh.mut n, R.nw, by simp [R.len], fun j x t h1 h2 => ?_, fun a b q sa sb h1 h2 w1 w2 k1 k2 => ?_⟩
  · by_cases e : i = j
    · subst e
      have l2 := get_lt h2
      rw [List.length_set] at l2
      rw [List.getElem?_set_self l2] at h2
      cases h2
      rw [hp] at h1
      cases h1
      exact SlR.of ⟨p, rfl, n, nb, oa⟩
    · rw [List.getElem?_set_ne e] at h2
      refine (R.sl j x t h1 h2).mono ex0 fun q e1 w2 => ?_
      have nq : q ≠ p := fun z => e (R.ds i j p s t h h2 w w2 hp (by rw [h1, e1, z]))
      obtain ⟨q', e2, n2, _, _⟩ := (R.sl j x t h1 h2).own w2
      rw [e1] at e2
      obtain rfl : q = q' := by injection e2 with z; injection z
      exact ⟨upd_ne nq, n2⟩
  · have back : ∀ {a : Nat} {sa : Sl}, (env.set i s')[a]? = some sa → sa.own = true → ∃ t, env[a]? = some t ∧ t.own = true := fun {a sa} h1 w1 => by
      by_cases e : i = a
      · subst e
        exact ⟨s, h, w⟩
      · rw [List.getElem?_set_ne e] at h1
        exact ⟨sa, h1, w1⟩
    obtain ⟨ta, ha, wa⟩ := back h1 w1
    obtain ⟨tb, hb, wb⟩ := back h2 w2
    exact R.ds a b q ta tb ha hb wa wb k1 k2
/-- a thing of one's own is let go: it is a value from now on -/
theorem Rel.let (R : Rel K B G σ H env) {i : Nat} {s : Sl} {o : HO} {d : D} (h : env[i]? = some s) (w : s.own = true) (hp : σ[i]? = some (some (.ref p))) (ho : H p = some o) (r : Rep K (upd G p o) (.ref p) d) :
    Rel K B (upd G p o) σ H (env.set i (.v d)) := by
  obtain ⟨p', hp', n, nb, oa0⟩ := R.own h w
  rw [hp] at hp'
  obtain rfl : p = p' := by injection hp' with z; injection z with z; injection z
  have eg : Ex G (upd G p o) := exn n
  refine ⟨R.bg.trans eg, R.bh, fun a u k => ?_, fun q hq => ?_, by simp [R.len], fun j x t h1 h2 => ?_, fun a b q sa sb h1 h2 w1 w2 k1 k2 => ?_⟩
  · by_cases z : a = p
    · subst z
      rw [upd_same] at k
      rw [← k]
      exact ho
    · rw [upd_ne z] at k
      exact R.gh _ _ k
  · rw [upd_ne (fun z => hq (by rw [z]; exact nb))]
    exact R.nw q hq
  · by_cases e : i = j
    · subst e
      have l2 := get_lt h2
      rw [List.length_set] at l2
      rw [List.getElem?_set_self l2] at h2
      cases h2
      rw [hp] at h1
      cases h1
      exact ⟨_, rfl, r⟩
    · rw [List.getElem?_set_ne e] at h2
      refine (R.sl j x t h1 h2).mono eg fun q e1 w2 => ?_
      have nq : q ≠ p := fun z => e (R.ds i j p s t h h2 w w2 hp (by rw [h1, e1, z]))
      obtain ⟨q', e2, n2, _, _⟩ := (R.sl j x t h1 h2).own w2
      rw [e1] at e2
      obtain rfl : q = q' := by injection e2 with z; injection z
      exact ⟨rfl, by rw [upd_ne nq]; exact n2⟩
  · have na : ∀ {a : Nat} {sa : Sl}, (env.set i (.v d))[a]? = some sa → sa.own = true → env[a]? = some sa := fun {a sa} h1 w1 => by
      by_cases e : i = a
      · subst e
        have l2 := get_lt h1
        rw [List.length_set] at l2
        rw [List.getElem?_set_self l2] at h1
        cases h1
        cases w1
      · rw [List.getElem?_set_ne e] at h1
        exact h1
    exact R.ds a b q sa sb (na h1 w1) (na h2 w2) w1 w2 k1 k2
/-- nothing of one's own stands where the heap had nothing -/
theorem Rel.fresh (R : Rel K B G σ H env) (n : H p = none) : ∀ (j : Nat) t, env[j]? = some t → t.own = true → σ[j]? ≠ some (some (.ref p)) := fun j t h w z => by
  obtain ⟨q, hq, _, _, oa⟩ := R.own h w
  rw [z] at hq
  obtain rfl : p = q := by injection hq with z; injection z with z; injection z
  obtain ⟨o, ho⟩ := oa.some
  rw [n] at ho
  cases ho
theorem Rel.newB (R : Rel K B G σ H env) (n : H p = none) : B.H p = none := Evl.fresh_back R.bh n
end
end Pd
set_option maxRecDepth 100000
set_option maxHeartbeats 4000000
namespace Pd
open PySem PySem.Spec PyProof.Rows L2 Pre

/-! ### errors -/
inductive Err where
  | bare (C : Addr)
  | fld (C : Addr) (ns : List Str) (ds : List D)
  | blt (n : String)
section
variable (K : PySem.W.Frag)
def ErrTo (G H : Hp) (W : WX) (σ : L2.St) : Err → Prop
  | .bare C => ∀ G' H', Grow G H G' H' → W (.ref C) none σ H'
  | .fld C ns ds => ∀ (G' H' : Hp) dd (fs : List (Str × V)), Grow G H G' H' → G' dd = some (.xd fs) → fs.map (·.1) = ns → RepA K G' (fs.map (·.2)) ds → W (.ref C) (some dd) σ H'
  | .blt n => ∀ G' H' d, Grow G H G' H' → W (.type n) d σ H'
end
theorem ErrTo.grow {K : PySem.W.Frag} {G H G' H' : Hp} {W : WX} {σ : L2.St} {e : Err} (h : ErrTo K G H W σ e) (g : Grow G H G' H') : ErrTo K G' H' W σ e := by
  cases e with
  | bare C => exact fun G2 H2 g2 => h G2 H2 (g.trans g2)
  | fld C ns ds => exact fun G2 H2 dd fs g2 => h G2 H2 dd fs (g.trans g2)
  | blt n => exact fun G2 H2 d g2 => h G2 H2 d (g.trans g2)

/-! ### meanings: from the slots, with a wish of what comes and one of what is raised -/
abbrev En := List Sl
abbrev Fx (α : Type) := En → (α → Prop) → (Err → Prop) → Prop
inductive Out where
  | nx (env : En) | bk (env : En) | ct (env : En) | rt (d : D) | er (env : En) (e : Err)
abbrev Fs := En → (Out → Prop) → Prop

section
variable (K : PySem.W.Frag) (B : Bs) (W : WX)
def tP (F : Fx D) : TE := fun σ H Q => ∃ G env P R, Rel K B G σ H env ∧ F env P R ∧ (∀ d, P d → ∀ v G' H', Grow G H G' H' → Rep K G' v d → Q v H') ∧ ∀ e, R e → ErrTo K G H W σ e
def tQ (F : Fx Bool) : TT := fun σ H Q => ∃ G env P R, Rel K B G σ H env ∧ F env P R ∧ (∀ b, P b → ∀ G' H', Grow G H G' H' → Q b H') ∧ ∀ e, R e → ErrTo K G H W σ e
def tA (F : Fx (List D)) : TA := fun σ H Q => ∃ G env P R, Rel K B G σ H env ∧ F env P R ∧ (∀ ds, P ds → ∀ vs G' H', Grow G H G' H' → RepA K G' vs ds → Q vs H') ∧ ∀ e, R e → ErrTo K G H W σ e
/-- a new list that nothing else holds -/
def tL (F : Fx (List D)) : TE := fun σ H Q => ∃ G env P R, Rel K B G σ H env ∧ F env P R ∧
  (∀ ds, P ds → ∀ p vs G' H', Grow G H G' H' → H p = none → G' p = none → H' p = some (.lst vs) → RepA K G' vs ds → Q (.ref p) H') ∧ ∀ e, R e → ErrTo K G H W σ e
/-- a new dict that nothing else holds -/
def tK (F : Fx (List Key × List D)) : TE := fun σ H Q => ∃ G env P R, Rel K B G σ H env ∧ F env P R ∧
  (∀ x, P x → ∀ p (kvs : List (Key × V)) G' H', Grow G H G' H' → H p = none → G' p = none → H' p = some (.dK kvs) → kvs.map (·.1) = x.1 → RepA K G' (kvs.map (·.2)) x.2 → Q (.ref p) H') ∧ ∀ e, R e → ErrTo K G H W σ e
def tO' (F : Fx (Option Int)) : TO := fun σ H Q => ∃ G env P R, Rel K B G σ H env ∧ F env P R ∧ (∀ o, P o → ∀ G' H', Grow G H G' H' → Q o H') ∧ ∀ e, R e → ErrTo K G H W σ e
structure EndsOk (G : Hp) (P : Out → Prop) (Dn : Ends) : Prop where
  nx : ∀ env, P (.nx env) → ∀ σ' G' H', Ex G G' → Rel K B G' σ' H' env → Dn.nx σ' H'
  bk : ∀ env, P (.bk env) → ∀ σ' G' H', Ex G G' → Rel K B G' σ' H' env → Dn.bk σ' H'
  ct : ∀ env, P (.ct env) → ∀ σ' G' H', Ex G G' → Rel K B G' σ' H' env → Dn.ct σ' H'
  rt : ∀ d, P (.rt d) → ∀ v G' H', Grow B.G B.H G' H' → Rep K G' v d → Dn.rt v H'
  er : ∀ env e, P (.er env e) → ∀ σ' G' H', Ex G G' → Rel K B G' σ' H' env → ErrTo K G' H' W σ' e
def tS (F : Fs) : TS := fun Dn σ H => ∃ G env P, Rel K B G σ H env ∧ F env P ∧ EndsOk K B W G P Dn
end
section
variable {K : PySem.W.Frag} {B : Bs} {W : WX} {G G' H : Hp} {P : Out → Prop} {Dn : Ends} {σ : L2.St} {env : En}
theorem EndsOk.ex (h : EndsOk K B W G P Dn) (e : Ex G G') : EndsOk K B W G' P Dn :=
  ⟨fun env p σ' G2 H' x => h.nx env p σ' G2 H' (e.trans x), fun env p σ' G2 H' x => h.bk env p σ' G2 H' (e.trans x), fun env p σ' G2 H' x => h.ct env p σ' G2 H' (e.trans x), h.rt, fun env r p σ' G2 H' x => h.er env r p σ' G2 H' (e.trans x)⟩
/-- what stands at the end is grown from the start -/
theorem Rel.all (R : Rel K B G σ H env) : Grow B.G B.H G H := ⟨R.bg, R.bh, R.gh, R.nw⟩
theorem EndsOk.err (h : EndsOk K B W G P Dn) (R : Rel K B G σ H env) : ∀ e, P (.er env e) → ErrTo K G H W σ e := fun e p => h.er env e p σ G H ex0 R
end

/-! ### judgements -/
section
variable (B : Bs) (W : WX) (X : Cx)
def PD (e : Expr) (F : Fx D) : Prop := PE X e (tP X.K B W F)
def PQ (e : Expr) (F : Fx Bool) : Prop := PT X e (tQ X.K B W F)
def PQw (e : Expr) (F : Fx Bool) : Prop := PW X e (tQ X.K B W F)
def PDA (es : List Expr) (F : Fx (List D)) : Prop := PA X es (tA X.K B W F)
def PL (e : Expr) (F : Fx (List D)) : Prop := PE X e (tL X.K B W F)
def PK' (e : Expr) (F : Fx (List Key × List D)) : Prop := PE X e (tK X.K B W F)
def PDO (e : Option Expr) (F : Fx (Option Int)) : Prop := PO X e (tO' X.K B W F)
def PDs (s : Stmt) (F : Fs) : Prop := PS X s (tS X.K B W F)
def PDss (s : List Stmt) (F : Fs) : Prop := PSs X s (tS X.K B W F)
end
theorem _root_.L2.PE.imp {X : Cx} {e : Expr} {t t' : TE} (h : PE X e t) (k : ∀ σ H Q, t' σ H Q → t σ H Q) : PE X e t' := ⟨fun pins s σ H Q I q => h.run pins s σ H Q I (k σ H Q q)⟩
theorem _root_.L2.PT.imp {X : Cx} {e : Expr} {t t' : TT} (h : PT X e t) (k : ∀ σ H Q, t' σ H Q → t σ H Q) : PT X e t' := ⟨fun pins s σ H Q I q => h.run pins s σ H Q I (k σ H Q q)⟩
theorem _root_.L2.PW.imp {X : Cx} {e : Expr} {t t' : TT} (h : PW X e t) (k : ∀ σ H Q, t' σ H Q → t σ H Q) : PW X e t' := ⟨fun wh pins s σ H Q I q => h.run wh pins s σ H Q I (k σ H Q q)⟩
theorem _root_.L2.PA.imp {X : Cx} {e : List Expr} {t t' : TA} (h : PA X e t) (k : ∀ σ H Q, t' σ H Q → t σ H Q) : PA X e t' := ⟨fun pos pins s σ H Q I q => h.run pos pins s σ H Q I (k σ H Q q)⟩
theorem _root_.L2.PO.imp {X : Cx} {e : Option Expr} {t t' : TO} (h : PO X e t) (k : ∀ σ H Q, t' σ H Q → t σ H Q) : PO X e t' := ⟨fun pins s σ H Q I q => h.run pins s σ H Q I (k σ H Q q)⟩
theorem _root_.L2.PS.imp {X : Cx} {e : Stmt} {t t' : TS} (h : PS X e t) (k : ∀ D σ H, t' D σ H → t D σ H) : PS X e t' := ⟨fun pins s σ H D I q => h.run pins s σ H D I (k D σ H q)⟩
theorem _root_.L2.PSs.imp {X : Cx} {e : List Stmt} {t t' : TS} (h : PSs X e t) (k : ∀ D σ H, t' D σ H → t D σ H) : PSs X e t' := ⟨fun pins s σ H D I q => h.run pins s σ H D I (k D σ H q)⟩

section
variable {B : Bs} {W : WX} {X : Cx} {pos : Pos} {a b c e : Expr} {fa fb fc : Fx D} {ga gb : Fx Bool}

/-! ### names, constants -/
def wVar (i : Nat) : Fx D := fun env P _ => match env[i]? with
  | some (.v d) => P d
  | _ => False
def wC (d : D) : Fx D := fun _ P _ => P d
theorem pd_var (i : Nat) {x : Str} (hN : X.N[i]? = some x := by rfl) (hv : Vis X.env.scope x := by first | exact Or.inl rfl | exact Or.inr (Or.inl rfl) | exact Or.inr (Or.inr rfl)) (hd : (x == ("__debug__" : Str)) = false := by decide)
    (hcd : (x == ("__classdict__" : Str)) = false := by decide) : PD B W X (.Name x pos) (wVar i) := by
  refine (pe_var hN hv hd hcd).imp fun σ H Q ⟨G, env, P, R, rel, hF, hP, hR⟩ => ?_
  unfold wVar at hF
  split at hF
  · rename_i d h
    obtain ⟨v, e, r⟩ := rel.val h
    exact ⟨v, e, hP d hF v G H (Grow.refl rel.gh) r⟩
  · exact hF.elim
theorem pd_const {v : V} {d : D} (h : PE X e (tC v)) (r : ∀ K G, Rep K G v d) : PD B W X e (wC d) :=
  h.imp fun σ H Q ⟨G, env, P, R, rel, hF, hP, hR⟩ => hP d hF v G H (Grow.refl rel.gh) (r _ _)
theorem pd_int {i j} : PD B W X (.Constant (.int i) j pos) (wC (.int i)) := pd_const pe_int fun _ _ => .int i
theorem pd_bl {b j} : PD B W X (.Constant (.bool b) j pos) (wC (.bl b)) := pd_const pe_bl fun _ _ => .bl b
theorem pd_non {j} : PD B W X (.Constant .none j pos) (wC .non) := pd_const pe_non fun _ _ => .non
theorem pd_str {x j} : PD B W X (.Constant (.str x) j pos) (wC (.str x)) := pd_const pe_str fun _ _ => .str x

/-! ### operators -/
def wOp (φ : D → D → (D → Prop) → Prop) (fa fb : Fx D) : Fx D := fun env P R => fa env (fun x => fb env (fun y => φ x y P) R) R
def wUn (φ : D → (D → Prop) → Prop) (fa : Fx D) : Fx D := fun env P R => fa env (fun x => φ x P) R
/-- what an operator by values does, over trees -/
def OpD (K : PySem.W.Frag) (r : R2) (φ : D → D → (D → Prop) → Prop) : Prop := ∀ (x y : V) (dx dy : D) (G H : Hp) (P : D → Prop) (Q : VK), Ex G H → Rep K G x dx → Rep K G y dy → φ dx dy P →
  (∀ d, P d → ∀ v G' H', Grow G H G' H' → Rep K G' v d → Q v H') → r x y H Q
def UnD (K : PySem.W.Frag) (r : V → Hp → VK → Prop) (φ : D → (D → Prop) → Prop) : Prop := ∀ (x : V) (dx : D) (G H : Hp) (P : D → Prop) (Q : VK), Ex G H → Rep K G x dx → φ dx P →
  (∀ d, P d → ∀ v G' H', Grow G H G' H' → Rep K G' v d → Q v H') → r x H Q
/-- two in a row -/
theorem two {K : PySem.W.Frag} {σ : L2.St} {H : Hp} {T : V → V → Hp → Prop} {G : Hp} {env : En} {P : D → D → Prop} {R : Err → Prop} (rel : Rel K B G σ H env) (hF : fa env (fun x => fb env (fun y => P x y) R) R)
    (hR : ∀ e, R e → ErrTo K G H W σ e) (k : ∀ x y dx dy G' H', Grow G H G' H' → Rep K G' x dx → Rep K G' y dy → P dx dy → T x y H') : tP K B W fa σ H fun x H1 => tP K B W fb σ H1 fun y H2 => T x y H2 :=
  ⟨G, env, _, R, rel, hF, fun dx px x G1 H1 g1 rx => ⟨G1, env, _, R, rel.grow g1, px, fun dy py y G2 H2 g2 ry => k x y dx dy G2 H2 (g1.trans g2) (rx.ex g2.g) ry py, fun e re => (hR e re).grow g1⟩, hR⟩
theorem wOp_ok {K : PySem.W.Frag} {r : R2} {φ : D → D → (D → Prop) → Prop} (hd : OpD K r φ) {σ : L2.St} {H : Hp} {Q : VK} (h : tP K B W (wOp φ fa fb) σ H Q) : tOp r (tP K B W fa) (tP K B W fb) σ H Q := by
  obtain ⟨G, env, P, R, rel, hF, hP, hR⟩ := h
  exact two rel hF hR fun x y dx dy G' H' g rx ry p => hd x y dx dy G' H' P Q g.gh rx ry p fun d pd v G2 H2 g2 rv => hP d pd v G2 H2 (g.trans g2) rv
theorem pd_op {op : Operator} {r : R2} {φ : D → D → (D → Prop) → Prop} (h : OpR X (binaryOp op) r) (hd : OpD X.K r φ) (ha : PD B W X a fa) (hb : PD B W X b fb) : PD B W X (.BinOp a op b pos) (wOp φ fa fb) :=
  (pe_op h ha hb).imp fun σ H Q q => wOp_ok hd q
theorem pd_un {op : UnaryOp} {r : V → Hp → VK → Prop} {φ : D → (D → Prop) → Prop} (h : UnR X (unaryOp op) r) (hd : UnD X.K r φ) (ha : PD B W X a fa) : PD B W X (.UnaryOp op a pos) (wUn φ fa) :=
  (pe_un h ha).imp fun σ H Q ⟨G, env, P, R, rel, hF, hP, hR⟩ => ⟨G, env, _, R, rel, hF, fun dx px x G1 H1 g1 rx => hd x dx G1 H1 P Q g1.gh rx px fun d pd v G2 H2 g2 rv => hP d pd v G2 H2 (g1.trans g2) rv, hR⟩
theorem pd_cmp {op : CmpOp} {r : R2} {φ : D → D → (D → Prop) → Prop} (h : OpR X (compareOp op) r) (hd : OpD X.K r φ) (ha : PD B W X a fa) (hb : PD B W X b fb) (hm : behindInMarks op b = false) : PD B W X (.Compare a [op] [b] pos) (wOp φ fa fb) :=
  (pe_cmpR h ha hb hm).imp fun σ H Q q => wOp_ok hd q
/-- the same as a test -/
def wOpB (φ : D → D → (D → Prop) → Prop) (fa fb : Fx D) : Fx Bool := fun env P R => fa env (fun x => fb env (fun y => φ x y (fun d => match d with | .bl b => P b | _ => False)) R) R
theorem pq_cmp {op : CmpOp} {r : R2} {φ : D → D → (D → Prop) → Prop} (h : OpR X (compareOp op) r) (hd : OpD X.K r φ) (ha : PD B W X a fa) (hb : PD B W X b fb) (hm : behindInMarks op b = false) : PQ B W X (.Compare a [op] [b] pos) (wOpB φ fa fb) :=
  (pt_cmpR h ha hb hm).imp fun σ H Q ⟨G, env, P, R, rel, hF, hP, hR⟩ => by
    refine two rel hF hR fun x y dx dy G' H' g rx ry p => hd x y dx dy G' H' _ _ g.gh rx ry p fun d pd v G2 H2 g2 rv => ?_
    cases d with
    | bl b => exact ⟨b, rv.bl_inv, hP b pd _ _ (g.trans g2)⟩
    | _ => exact pd.elim
/-- any expression that gives a bool, as a test -/
def wB (fa : Fx D) : Fx Bool := fun env P R => fa env (fun d => match d with | .bl b => P b | _ => False) R
theorem wB_ok {K : PySem.W.Frag} {σ : L2.St} {H : Hp} {Q : Bool → Hp → Prop} (h : tQ K B W (wB fa) σ H Q) : tB (tP K B W fa) σ H Q := by
  obtain ⟨G, env, P, R, rel, hF, hP, hR⟩ := h
  refine ⟨G, env, _, R, rel, hF, fun d pd v G2 H2 g2 rv => ?_, hR⟩
  cases d with
  | bl b => exact ⟨b, rv.bl_inv, hP b pd _ _ g2⟩
  | _ => exact pd.elim
theorem pq_val (h : PD B W X a fa) (he : ∀ whole, isTrue a X.env whole = (do let v ← whole; standAt a.pos; holding [v] (truthy v)) := by intro _; rfl) : PQ B W X a (wB fa) := (pt_val h he).imp fun _ _ _ q => wB_ok q
/-- chains a < b < c -/
def wCh (φ ψ : D → D → (D → Prop) → Prop) (fa fb fc : Fx D) : Fx D := fun env P R => fa env (fun x => fb env (fun y => φ x y (fun d => match d with | .bl b => if b = true then fc env (fun z => ψ y z P) R else P (.bl false) | _ => False)) R) R
theorem wCh_ok {K : PySem.W.Frag} {r r' : R2} {φ ψ : D → D → (D → Prop) → Prop} (hd : OpD K r φ) (hd' : OpD K r' ψ) {σ : L2.St} {H : Hp} {Q : VK} (h : tP K B W (wCh φ ψ fa fb fc) σ H Q) : tChain r r' (tP K B W fa) (tP K B W fb) (tP K B W fc) σ H Q := by
  obtain ⟨G, env, P, R, rel, hF, hP, hR⟩ := h
  refine two rel hF hR fun x y dx dy G1 H1 g1 rx ry p => hd x y dx dy G1 H1 _ _ g1.gh rx ry p fun d pd v G2 H2 g2 rv => ?_
  cases d with
  | bl b =>
    refine ⟨b, rv.bl_inv, ?_⟩
    cases b with
    | true =>
      rw [if_pos rfl]
      refine ⟨G2, env, _, R, rel.grow (g1.trans g2), pd, fun dz pz z G3 H3 g3 rz => hd' y z dy dz G3 H3 P Q g3.gh (ry.ex (g2.g.trans g3.g)) rz pz fun d pd v G4 H4 g4 rv => hP d pd v G4 H4 ((g1.trans g2).trans (g3.trans g4)) rv, fun e re => (hR e re).grow (g1.trans g2)⟩
    | false =>
      rw [if_neg (by decide)]
      exact hP _ pd _ G2 H2 (g1.trans g2) (.bl false)
  | _ => exact pd.elim
theorem pd_chain {op op' : CmpOp} {r r' : R2} {φ ψ : D → D → (D → Prop) → Prop} (h : OpR X (compareOp op) r) (h' : OpR X (compareOp op') r') (hd : OpD X.K r φ) (hd' : OpD X.K r' ψ) (ha : PD B W X a fa) (hb : PD B W X b fb) (hc : PD B W X c fc)
    (hm : lastMarks [op, op'] [b, c] = false := by with_unfolding_all rfl) : PD B W X (.Compare a [op, op'] [b, c] pos) (wCh φ ψ fa fb fc) := (pe_chain h h' ha hb hc hm).imp fun _ _ _ q => wCh_ok hd hd' q
def wChB (φ ψ : D → D → (D → Prop) → Prop) (fa fb fc : Fx D) : Fx Bool := wB (wCh φ ψ fa fb fc)
theorem pq_chain {op op' : CmpOp} {r r' : R2} {φ ψ : D → D → (D → Prop) → Prop} (h : OpR X (compareOp op) r) (h' : OpR X (compareOp op') r') (hd : OpD X.K r φ) (hd' : OpD X.K r' ψ) (ha : PD B W X a fa) (hb : PD B W X b fb) (hc : PD B W X c fc)
    (hm : lastMarks [op, op'] [b, c] = false := by with_unfolding_all rfl) : PQ B W X (.Compare a [op, op'] [b, c] pos) (wB (wCh φ ψ fa fb fc)) := (pt_chain h h' ha hb hc hm).imp fun σ H Q ⟨G, env, P, R, rel, hF, hP, hR⟩ =>
  wCh_ok hd hd' ⟨G, env, _, R, rel, hF, fun d pd v G2 H2 g2 rv => by
    cases d with
    | bl b => exact ⟨b, rv.bl_inv, hP b pd _ _ g2⟩
    | _ => exact pd.elim, hR⟩

/-! ### and, or, not, if -/
def wAnd (ga gb : Fx Bool) : Fx Bool := fun env P R => ga env (fun x => if x = true then gb env P R else P false) R
def wOr (ga gb : Fx Bool) : Fx Bool := fun env P R => ga env (fun x => if x = true then P true else gb env P R) R
def wNot (ga : Fx Bool) : Fx Bool := fun env P R => ga env (fun x => P (!x)) R
variable {rest : List Expr}
theorem pqw_and1 (ha : PQ B W X a ga) : PQw B W X (.BoolOp .And [a] pos) ga := pw_and1 ha
theorem pqw_or1 (ha : PQ B W X a ga) : PQw B W X (.BoolOp .Or [a] pos) ga := pw_or1 ha
theorem pqw_and (ha : PQ B W X a ga) (hb : PQw B W X (.BoolOp .And (b :: rest) pos) gb) : PQw B W X (.BoolOp .And (a :: b :: rest) pos) (wAnd ga gb) :=
  (pw_and ha hb).imp fun σ H Q ⟨G, env, P, R, rel, hF, hP, hR⟩ => ⟨G, env, _, R, rel, hF, fun x px G1 H1 g1 => by
    cases x with
    | true => exact ⟨G1, env, P, R, rel.grow g1, px, fun b pb G2 H2 g2 => hP b pb G2 H2 (g1.trans g2), fun e re => (hR e re).grow g1⟩
    | false => exact hP _ px G1 H1 g1, hR⟩
theorem pqw_or (ha : PQ B W X a ga) (hb : PQw B W X (.BoolOp .Or (b :: rest) pos) gb) : PQw B W X (.BoolOp .Or (a :: b :: rest) pos) (wOr ga gb) :=
  (pw_or ha hb).imp fun σ H Q ⟨G, env, P, R, rel, hF, hP, hR⟩ => ⟨G, env, _, R, rel, hF, fun x px G1 H1 g1 => by
    cases x with
    | false => exact ⟨G1, env, P, R, rel.grow g1, px, fun b pb G2 H2 g2 => hP b pb G2 H2 (g1.trans g2), fun e re => (hR e re).grow g1⟩
    | true => exact hP _ px G1 H1 g1, hR⟩
theorem pqw_pt (h : PQw B W X a ga) : PQ B W X a ga := PW.pt h
theorem pq_not (ha : PQ B W X a ga) : PQ B W X (.UnaryOp .Not a pos) (wNot ga) :=
  (pt_not ha).imp fun σ H Q ⟨G, env, P, R, rel, hF, hP, hR⟩ => ⟨G, env, _, R, rel, hF, fun x px G1 H1 g1 => hP _ px G1 H1 g1, hR⟩
def wAndV (fa fb : Fx D) : Fx D := fun env P R => fa env (fun x => match x with | .bl b => if b = true then fb env P R else P (.bl false) | _ => False) R
def wOrV (fa fb : Fx D) : Fx D := fun env P R => fa env (fun x => match x with | .bl b => if b = true then P (.bl true) else fb env P R | _ => False) R
def wNotV (fa : Fx D) : Fx D := fun env P R => fa env (fun x => match x with | .bl b => P (.bl (!b)) | _ => False) R
theorem pd_one {op} (h : PD B W X a fa) : PD B W X (.BoolOp op [a] pos) fa := pe_one h
theorem pd_and (ha : PD B W X a fa) (hb : PD B W X (.BoolOp .And (b :: rest) pos) fb) : PD B W X (.BoolOp .And (a :: b :: rest) pos) (wAndV fa fb) :=
  (pe_and ha hb).imp fun σ H Q ⟨G, env, P, R, rel, hF, hP, hR⟩ => ⟨G, env, _, R, rel, hF, fun x px v G1 H1 g1 rv => by
    cases x with
    | bl b =>
      refine ⟨b, rv.bl_inv, ?_⟩
      cases b with
      | true =>
        rw [if_pos rfl]
        exact ⟨G1, env, P, R, rel.grow g1, px, fun b pb v G2 H2 g2 rv => hP b pb v G2 H2 (g1.trans g2) rv, fun e re => (hR e re).grow g1⟩
      | false =>
        rw [if_neg (by decide)]
        exact hP _ px _ G1 H1 g1 (.bl false)
    | _ => exact px.elim, hR⟩
theorem pd_or (ha : PD B W X a fa) (hb : PD B W X (.BoolOp .Or (b :: rest) pos) fb) : PD B W X (.BoolOp .Or (a :: b :: rest) pos) (wOrV fa fb) :=
  (pe_or ha hb).imp fun σ H Q ⟨G, env, P, R, rel, hF, hP, hR⟩ => ⟨G, env, _, R, rel, hF, fun x px v G1 H1 g1 rv => by
    cases x with
    | bl b =>
      refine ⟨b, rv.bl_inv, ?_⟩
      cases b with
      | false =>
        rw [if_neg (by decide)]
        exact ⟨G1, env, P, R, rel.grow g1, px, fun b pb v G2 H2 g2 rv => hP b pb v G2 H2 (g1.trans g2) rv, fun e re => (hR e re).grow g1⟩
      | true =>
        rw [if_pos rfl]
        exact hP _ px _ G1 H1 g1 (.bl true)
    | _ => exact px.elim, hR⟩
theorem pd_not (ha : PD B W X a fa) : PD B W X (.UnaryOp .Not a pos) (wNotV fa) :=
  (pe_not ha).imp fun σ H Q ⟨G, env, P, R, rel, hF, hP, hR⟩ => ⟨G, env, _, R, rel, hF, fun x px v G1 H1 g1 rv => by
    cases x with
    | bl b => exact ⟨b, rv.bl_inv, hP _ px _ G1 H1 g1 (.bl _)⟩
    | _ => exact px.elim, hR⟩
def wIf (gc : Fx Bool) (fa fb : Fx D) : Fx D := fun env P R => gc env (fun x => if x = true then fa env P R else fb env P R) R
theorem pd_ifE (hc : PQ B W X c ga) (ha : PD B W X a fa) (hb : PD B W X b fb) : PD B W X (.IfExp c a b pos) (wIf ga fa fb) :=
  (pe_ifExp hc ha hb).imp fun σ H Q ⟨G, env, P, R, rel, hF, hP, hR⟩ => ⟨G, env, _, R, rel, hF, fun x px G1 H1 g1 => by
    cases x with
    | true => exact ⟨G1, env, P, R, rel.grow g1, px, fun b pb v G2 H2 g2 rv => hP b pb v G2 H2 (g1.trans g2) rv, fun e re => (hR e re).grow g1⟩
    | false => exact ⟨G1, env, P, R, rel.grow g1, px, fun b pb v G2 H2 g2 rv => hP b pb v G2 H2 (g1.trans g2) rv, fun e re => (hR e re).grow g1⟩, hR⟩

/-! ### arguments, displays -/
variable {es : List Expr} {fas : Fx (List D)}
def wNil : Fx (List D) := fun _ P _ => P []
def wCons (fa : Fx D) (fas : Fx (List D)) : Fx (List D) := fun env P R => fa env (fun x => fas env (fun xs => P (x :: xs)) R) R
theorem pda_nil : PDA B W X [] wNil := pa_nil.imp fun σ H Q ⟨G, env, P, R, rel, hF, hP, hR⟩ => hP _ hF [] G H (Grow.refl rel.gh) .nil
theorem pda_cons (ha : PD B W X a fa) (hr : PDA B W X es fas) (hs : starEach (a :: es) X.env = (false, eval a X.env) :: starEach es X.env := by rfl) : PDA B W X (a :: es) (wCons fa fas) :=
  (pa_cons ha hr hs).imp fun σ H Q ⟨G, env, P, R, rel, hF, hP, hR⟩ => ⟨G, env, _, R, rel, hF, fun dx px x G1 H1 g1 rx => ⟨G1, env, _, R, rel.grow g1, px, fun ds pds vs G2 H2 g2 rvs => hP _ pds _ G2 H2 (g1.trans g2) (.cons (rx.ex g2.g) rvs), fun e re => (hR e re).grow g1⟩, hR⟩
def wTup (fas : Fx (List D)) : Fx D := fun env P R => fas env (fun ds => ds.length ≤ sizeLine ∧ P (.tup ds)) R
theorem pd_tup {x1} (h : PDA B W X es fas) : PD B W X (.Tuple es x1 pos) (wTup fas) :=
  (pe_tup h).imp fun σ H Q ⟨G, env, P, R, rel, hF, hP, hR⟩ => ⟨G, env, _, R, rel, hF, fun ds pd vs G1 H1 g1 rvs => ⟨by rw [rvs.len]; exact pd.1, fun p np => hP _ pd.2 _ _ _ (g1.trans (Grow.new g1.gh np)) (.tup (SqT.of upd_same) (rvs.ex (exn (Evl.fresh_back g1.gh np))))⟩, hR⟩
/-- a new list -/
def wLst (fas : Fx (List D)) : Fx (List D) := fun env P R => fas env (fun ds => ds.length ≤ sizeLine ∧ P ds) R
theorem pl_lst (h : PDA B W X es fas) : PL B W X (.List es pos) (wLst fas) :=
  (pe_lst h).imp fun σ H Q ⟨G, env, P, R, rel, hF, hP, hR⟩ => ⟨G, env, _, R, rel, hF, fun ds pd vs G1 H1 g1 rvs => ⟨by rw [rvs.len]; exact pd.1, fun p np =>
    hP _ pd.2 p vs G1 _ (g1.trans (Grow.own g1.gh np)) (Evl.fresh_back g1.h np) (Evl.fresh_back g1.gh np) upd_same rvs⟩, hR⟩
/-- a new list is a value -/
def wLV (f : Fx (List D)) : Fx D := fun env P R => f env (fun ds => P (.lst ds)) R
theorem pd_of_pl {f : Fx (List D)} (h : PL B W X e f) : PD B W X e (wLV f) :=
  h.imp fun σ H Q ⟨G, env, P, R, rel, hF, hP, hR⟩ => ⟨G, env, _, R, rel, hF, fun ds pd p vs G1 H1 g1 n1 n2 h1 rvs => hP _ pd _ _ _ (g1.see n1 n2 h1) (.lst upd_same (rvs.ex (exn n2))), hR⟩
def wKV (f : Fx (List Key × List D)) : Fx D := fun env P R => f env (fun x => P (.dic x.1 x.2)) R
theorem pd_of_pk {f : Fx (List Key × List D)} (h : PK' B W X e f) : PD B W X e (wKV f) :=
  h.imp fun σ H Q ⟨G, env, P, R, rel, hF, hP, hR⟩ => ⟨G, env, _, R, rel, hF, fun ds pd p kvs G1 H1 g1 n1 n2 h1 ek rvs => hP _ pd _ _ _ (g1.see n1 n2 h1) (.dic upd_same ek (rvs.ex (exn n2))), hR⟩

/-! ### built-ins by their values -/
def wBt (φ : List D → (D → Prop) → Prop) (fas : Fx (List D)) : Fx D := fun env P R => fas env (fun ds => φ ds P) R
def CaD (K : PySem.W.Frag) (r : List V → Hp → VK → Prop) (φ : List D → (D → Prop) → Prop) : Prop := ∀ (xs : List V) (ds : List D) (G H : Hp) (P : D → Prop) (Q : VK), Ex G H → RepA K G xs ds → φ ds P →
  (∀ d, P d → ∀ v G' H', Grow G H G' H' → Rep K G' v d → Q v H') → r xs H Q
theorem wBt_ok {K : PySem.W.Frag} {r : List V → Hp → VK → Prop} {φ : List D → (D → Prop) → Prop} (hd : CaD K r φ) {σ : L2.St} {H : Hp} {Q : VK} (h : tP K B W (wBt φ fas) σ H Q) : tCB r (tA K B W fas) σ H Q := by
  obtain ⟨G, env, P, R, rel, hF, hP, hR⟩ := h
  exact ⟨G, env, _, R, rel, hF, fun ds pd vs G1 H1 g1 rvs => hd vs ds G1 H1 P Q g1.gh rvs pd fun d pd v G2 H2 g2 rv => hP d pd v G2 H2 (g1.trans g2) rv, hR⟩
theorem pd_bt {r : List V → Hp → VK → Prop} {φ : List D → (D → Prop) → Prop} (h : PE X e (tCB r (tA X.K B W fas))) (hd : CaD X.K r φ) : PD B W X e (wBt φ fas) := h.imp fun _ _ _ q => wBt_ok hd q
/-- a built-in that gives a new list -/
def wBl (φ : List D → (List D → Prop) → Prop) (fas : Fx (List D)) : Fx (List D) := fun env P R => fas env (fun ds => φ ds P) R
def ClD (K : PySem.W.Frag) (r : List V → Hp → VK → Prop) (φ : List D → (List D → Prop) → Prop) : Prop := ∀ (xs : List V) (ds : List D) (G H : Hp) (P : List D → Prop) (Q : VK), Ex G H → RepA K G xs ds → φ ds P →
  (∀ d, P d → ∀ p vs G' H', Grow G H G' H' → H p = none → G' p = none → H' p = some (.lst vs) → RepA K G' vs d → Q (.ref p) H') → r xs H Q
theorem pl_bt {r : List V → Hp → VK → Prop} {φ : List D → (List D → Prop) → Prop} (h : PE X e (tCB r (tA X.K B W fas))) (hd : ClD X.K r φ) : PL B W X e (wBl φ fas) :=
  h.imp fun σ H Q ⟨G, env, P, R, rel, hF, hP, hR⟩ => ⟨G, env, _, R, rel, hF, fun ds pd vs G1 H1 g1 rvs => hd vs ds G1 H1 P Q g1.gh rvs pd fun d pd p us G2 H2 g2 n1 n2 h2 rv => hP d pd p us G2 H2 (g1.trans g2) (Evl.fresh_back g1.h n1) n2 h2 rv, hR⟩
end
end Pd
set_option maxRecDepth 100000
set_option maxHeartbeats 4000000
/-! operators and built-ins over trees -/
namespace Pd
open PySem PySem.Spec PyProof.Rows L2 Pre

mutual
def toPy : D → Option PyData
  | .non => some .none
  | .bl b => some (.bool b)
  | .int i => some (.int i)
  | .str s => some (.str s)
  | .lst ds => (toPyA ds).map .list
  | .tup ds => (toPyA ds).map .tuple
  | _ => none
def toPyA : List D → Option (List PyData)
  | [] => some []
  | d :: ds => match toPy d, toPyA ds with
    | some p, some ps => some (p :: ps)
    | _, _ => none
end
mutual
theorem Rep.dp {K : PySem.W.Frag} {G : Hp} : ∀ {v : V} {d : D} {p : PyData}, Rep K G v d → toPy d = some p → Dp K G v p
  | _, _, p, .non, e => by simp only [toPy] at e; cases e; exact .non
  | _, _, p, .bl b, e => by simp only [toPy] at e; cases e; exact .bl b
  | _, _, p, .int b, e => by simp only [toPy] at e; cases e; exact .int b
  | _, _, p, .str b, e => by simp only [toPy] at e; cases e; exact .str b
  | _, _, p, .byt b, e => by simp only [toPy] at e; cases e
  | _, _, p, .lst (ds := ds) h r, e => by
    simp only [toPy] at e
    cases q : toPyA ds with
    | none => rw [q] at e; cases e
    | some ps => rw [q] at e; cases e; exact .lst (SqL.of h) (RepA.dp r q)
  | _, _, p, .tup (ds := ds) h r, e => by
    simp only [toPy] at e
    cases q : toPyA ds with
    | none => rw [q] at e; cases e
    | some ps => rw [q] at e; cases e; exact .tup h (RepA.dp r q)
  | _, _, p, .dic _ _ _, e => by simp only [toPy] at e; cases e
  | _, _, p, .obj _ _ _, e => by simp only [toPy] at e; cases e
  | _, _, p, .hid _, e => by simp only [toPy] at e; cases e
  | _, _, p, .frz _ _, e => by simp only [toPy] at e; cases e
  | _, _, p, .raw v, e => by simp only [toPy] at e; cases e
theorem RepA.dp {K : PySem.W.Frag} {G : Hp} : ∀ {vs : List V} {ds : List D} {ps : List PyData}, RepA K G vs ds → toPyA ds = some ps → DpAll K G vs ps
  | _, _, ps, .nil, e => by simp only [toPyA] at e; cases e; exact .nil
  | _, _, ps, .cons (d := d) (ds := ds) h r, e => by
    simp only [toPyA] at e
    cases q : toPy d with
    | none => rw [q] at e; cases e
    | some p =>
      cases q2 : toPyA ds with
      | none => rw [q, q2] at e; cases e
      | some ps' => rw [q, q2] at e; cases e; exact .cons (Rep.dp h q) (RepA.dp r q2)
end
mutual
theorem dp_ex {K : PySem.W.Frag} {G H : Hp} (e : Ex G H) : ∀ {v : V} {p : PyData}, Dp K G v p → Dp K H v p
  | _, _, .non => .non
  | _, _, .bl b => .bl b
  | _, _, .int b => .int b
  | _, _, .str b => .str b
  | _, _, .lst h r => .lst (exl e h) (dpa_ex e r)
  | _, _, .tup h r => .tup (ext e h) (dpa_ex e r)
theorem dpa_ex {K : PySem.W.Frag} {G H : Hp} (e : Ex G H) : ∀ {v : List V} {p : List PyData}, DpAll K G v p → DpAll K H v p
  | _, _, .nil => .nil
  | _, _, .cons h r => .cons (dp_ex e h) (dpa_ex e r)
end

def D.flat : D → Bool
  | .non => true | .bl _ => true | .int _ => true | .str _ => true
  | _ => false
/-- == of two flat things where the rule of plain == serves -/
def scalD : D → D → Bool
  | .non, .non => true | .non, .int _ => true | .int _, .non => true | .non, .bl _ => true | .bl _, .non => true | .non, .str _ => true | .str _, .non => true
  | .int _, .int _ => true | .bl _, .bl _ => true | .str _, .str _ => true | .byt _, .byt _ => true
  | .int _, .str _ => true | .str _, .int _ => true | .bl _, .str _ => true | .str _, .bl _ => true
  | _, _ => false
def flatEq : D → D → Bool
  | .non, .non => true
  | .bl a, .bl b => a == b
  | .int a, .int b => a == b
  | .str a, .str b => a == b
  | .byt a, .byt b => decide (a = b)
  | _, _ => false
theorem scal_of {K : PySem.W.Frag} {G : Hp} {x y : V} {dx dy : D} (rx : Rep K G x dx) (ry : Rep K G y dy) (h : scalD dx dy = true) : scal x y = true ∧ decide (x = y) = flatEq dx dy := by
  cases rx <;> cases ry <;> first | (cases h; done) | (refine ⟨rfl, ?_⟩; simp [flatEq]; done) | (refine ⟨rfl, ?_⟩; simp only [flatEq, V.int.injEq, V.str.injEq, V.bl.injEq, V.byt.injEq]; rfl)
/-- == among flat things, as in looks for a member -/
def eqF : D → D → Bool
  | .non, .non => true
  | .bl a, .bl b => a == b
  | .bl a, .int b => (if a then 1 else 0) == b
  | .int a, .bl b => a == (if b then 1 else 0)
  | .int a, .int b => a == b
  | .str a, .str b => a == b
  | _, _ => false
theorem flat_of {K : PySem.W.Frag} {G : Hp} {x : V} {d : D} (r : Rep K G x d) (h : d.flat = true) : flatV x = true := by
  cases r <;> first | rfl | (cases h)
theorem flats_of {K : PySem.W.Frag} {G : Hp} : ∀ {xs : List V} {ds : List D}, RepA K G xs ds → ds.all D.flat = true → xs.all flatV = true
  | _, _, .nil, _ => rfl
  | _, _, .cons r rs, h => by
    rw [List.all_cons, Bool.and_eq_true] at h ⊢
    exact ⟨flat_of r h.1, flats_of rs h.2⟩
theorem eqF_of {K : PySem.W.Frag} {G : Hp} {x y : V} {dx dy : D} (rx : Rep K G x dx) (ry : Rep K G y dy) (hx : dx.flat = true) (hy : dy.flat = true) : eqV x y = eqF dx dy := by
  cases rx <;> cases ry <;> first | rfl | (cases hx; done) | (cases hy; done)
def inD (x : D) (ds : List D) : Bool := ds.any fun y => eqF y x
theorem inD_of {K : PySem.W.Frag} {G : Hp} {x : V} {dx : D} (rx : Rep K G x dx) (hx : dx.flat = true) : ∀ {xs : List V} {ds : List D}, RepA K G xs ds → ds.all D.flat = true → inV x xs = inD dx ds
  | _, _, .nil, _ => rfl
  | _, _, .cons r rs, h => by
    rw [List.all_cons, Bool.and_eq_true] at h
    have ih := inD_of rx hx rs h.2
    unfold inV inD at ih ⊢
    rw [List.any_cons, List.any_cons, ih, eqF_of r rx h.1 hx]

section
variable {K : PySem.W.Frag}
/-! ### numbers -/
def φI0 (g : Int → Int → D) : D → D → (D → Prop) → Prop
  | .int i, .int j, P => P (g i j)
  | _, _, _ => False
def φI (C : Int → Int → Prop) (g : Int → Int → D) : D → D → (D → Prop) → Prop
  | .int i, .int j, P => C i j ∧ P (g i j)
  | _, _, _ => False
theorem odI0 {g : Int → Int → Int} : OpD K (rI0 fun i j => .int (g i j)) (φI0 fun i j => .int (g i j)) := fun x y dx dy G H P Q e rx ry p k => by
  cases dx <;> first | exact p.elim | skip
  cases dy <;> first | exact p.elim | skip
  cases rx
  cases ry
  exact ⟨_, _, rfl, rfl, k _ p _ G H (Grow.refl e) (.int _)⟩
theorem odB0 {g : Int → Int → Bool} : OpD K (rI0 fun i j => .bl (g i j)) (φI0 fun i j => .bl (g i j)) := fun x y dx dy G H P Q e rx ry p k => by
  cases dx <;> first | exact p.elim | skip
  cases dy <;> first | exact p.elim | skip
  cases rx
  cases ry
  exact ⟨_, _, rfl, rfl, k _ p _ G H (Grow.refl e) (.bl _)⟩
theorem odI {C : Int → Int → Prop} {g : Int → Int → Int} : OpD K (rI C fun i j => .int (g i j)) (φI C fun i j => .int (g i j)) := fun x y dx dy G H P Q e rx ry p k => by
  cases dx <;> first | exact p.elim | skip
  cases dy <;> first | exact p.elim | skip
  cases rx
  cases ry
  exact ⟨_, _, rfl, rfl, p.1, k _ p.2 _ G H (Grow.refl e) (.int _)⟩
def φNeg : D → (D → Prop) → Prop
  | .int i, P => P (.int (-i))
  | _, _ => False
theorem udNeg : UnD K (rU fun i => .int (-i)) φNeg := fun x dx G H P Q e rx p k => by
  cases dx <;> first | exact p.elim | skip
  cases rx
  exact ⟨_, rfl, k _ p _ G H (Grow.refl e) (.int _)⟩

/-! ### texts -/
def φSS (g : Str → Str → Bool) : D → D → (D → Prop) → Prop
  | .str i, .str j, P => P (.bl (g i j))
  | _, _, _ => False
theorem odSS {g : Str → Str → Bool} : OpD K (fun x y H Q => ∃ i j, x = .str i ∧ y = .str j ∧ Q (.bl (g i j)) H) (φSS g) := fun x y dx dy G H P Q e rx ry p k => by
  cases dx <;> first | exact p.elim | skip
  cases dy <;> first | exact p.elim | skip
  cases rx
  cases ry
  exact ⟨_, _, rfl, rfl, k _ p _ G H (Grow.refl e) (.bl _)⟩
def φAddS : D → D → (D → Prop) → Prop
  | .str i, .str j, P => i.length + j.length ≤ sizeLine ∧ P (.str (i ++ j))
  | _, _, _ => False
theorem odAddS : OpD K (fun x y H Q => ∃ i j, x = .str i ∧ y = .str j ∧ i.length + j.length ≤ sizeLine ∧ Q (.str (i ++ j)) H) φAddS := fun x y dx dy G H P Q e rx ry p k => by
  cases dx <;> first | exact p.elim | skip
  cases dy <;> first | exact p.elim | skip
  cases rx
  cases ry
  exact ⟨_, _, rfl, rfl, p.1, k _ p.2 _ G H (Grow.refl e) (.str _)⟩
/-- a sign in a text -/
def φInS (neg : Bool) : D → D → (D → Prop) → Prop
  | .str s, .str t, P => match s.cps.toList with
    | [c] => P (.bl (if neg then !decide (c ∈ t.cps.toList) else decide (c ∈ t.cps.toList)))
    | _ => False
  | _, _, _ => False
theorem odInS : OpD K (fun x y H Q => ∃ (c : Nat) (z : Str), x = .str ⟨#[c]⟩ ∧ y = .str z ∧ Q (.bl (decide (c ∈ z.cps.toList))) H) (φInS false) := fun x y dx dy G H P Q e rx ry p k => by
  cases dx <;> first | exact p.elim | skip
  cases dy <;> first | exact p.elim | skip
  cases rx
  cases ry
  rename_i s t
  simp only [φInS] at p
  split at p
  · rename_i c hc
    have hs : s = ⟨#[c]⟩ := by
      cases s with
      | mk a => exact congrArg _ (Array.toList_inj.mp hc)
    subst hs
    exact ⟨c, t, rfl, rfl, k _ p _ G H (Grow.refl e) (.bl _)⟩
  · exact p.elim
theorem odNotInS : OpD K (fun x y H Q => ∃ (c : Nat) (z : Str), x = .str ⟨#[c]⟩ ∧ y = .str z ∧ Q (.bl (!decide (c ∈ z.cps.toList))) H) (φInS true) := fun x y dx dy G H P Q e rx ry p k => by
  cases dx <;> first | exact p.elim | skip
  cases dy <;> first | exact p.elim | skip
  cases rx
  cases ry
  rename_i s t
  simp only [φInS] at p
  split at p
  · rename_i c hc
    have hs : s = ⟨#[c]⟩ := by
      cases s with
      | mk a => exact congrArg _ (Array.toList_inj.mp hc)
    subst hs
    exact ⟨c, t, rfl, rfl, k _ p _ G H (Grow.refl e) (.bl _)⟩
  · exact p.elim

/-! ### ==, is None, in -/
def φEq (neg : Bool) (x y : D) (P : D → Prop) : Prop := scalD x y = true ∧ P (.bl (if neg then !flatEq x y else flatEq x y))
theorem odEq : OpD K rEq (φEq false) := fun x y dx dy G H P Q e rx ry p k => by
  obtain ⟨h1, h2⟩ := scal_of rx ry p.1
  exact ⟨h1, by rw [h2]; exact k _ p.2 _ G H (Grow.refl e) (.bl _)⟩
theorem odNe : OpD K rNe (φEq true) := fun x y dx dy G H P Q e rx ry p k => by
  obtain ⟨h1, h2⟩ := scal_of rx ry p.1
  exact ⟨h1, by rw [h2]; exact k _ p.2 _ G H (Grow.refl e) (.bl _)⟩
def φEqD (neg : Bool) (x y : D) (P : D → Prop) : Prop := match toPy x, toPy y with
  | some p, some q => SeqAt.shaped p = true ∧ SeqAt.shaped q = true ∧ P (.bl (if neg then !PyData.eqv p q else PyData.eqv p q))
  | _, _ => False
theorem odEqD : OpD K (rEqD K) (φEqD false) := fun x y dx dy G H P Q e rx ry p k => by
  unfold φEqD at p
  split at p
  · rename_i a b h1 h2
    exact ⟨a, b, dp_ex e (rx.dp h1), dp_ex e (ry.dp h2), p.1, p.2.1, k _ p.2.2 _ G H (Grow.refl e) (.bl _)⟩
  · exact p.elim
theorem odNeD : OpD K (rNeD K) (φEqD true) := fun x y dx dy G H P Q e rx ry p k => by
  unfold φEqD at p
  split at p
  · rename_i a b h1 h2
    exact ⟨a, b, dp_ex e (rx.dp h1), dp_ex e (ry.dp h2), p.1, p.2.1, k _ p.2.2 _ G H (Grow.refl e) (.bl _)⟩
  · exact p.elim
@[irreducible] def φIsN (neg : Bool) (x y : D) (P : D → Prop) : Prop := match x, y with
  | .raw _, _ => False
  | .non, .non => P (.bl (!neg))
  | _, .non => P (.bl neg)
  | _, _ => False
theorem odIsN : OpD K (fun x y H Q => y = .non ∧ Q (.bl (decide (x = .non))) H) (φIsN false) := fun x y dx dy G H P Q e rx ry p k => by
  unfold φIsN at p
  cases dy <;> first | (cases dx <;> exact p.elim) | skip
  cases ry
  refine ⟨rfl, ?_⟩
  cases rx <;> first | exact p.elim | exact k _ p _ G H (Grow.refl e) (.bl _)
theorem odNotN : OpD K (fun x y H Q => y = .non ∧ Q (.bl (!decide (x = .non))) H) (φIsN true) := fun x y dx dy G H P Q e rx ry p k => by
  unfold φIsN at p
  cases dy <;> first | (cases dx <;> exact p.elim) | skip
  cases ry
  refine ⟨rfl, ?_⟩
  cases rx <;> first | exact p.elim | exact k _ p _ G H (Grow.refl e) (.bl _)
def D.items : D → Option (List D)
  | .lst ds => some ds
  | .tup ds => some ds
  | .frz ds => some ds
  | _ => none
def φIn (neg : Bool) (x y : D) (P : D → Prop) : Prop := match y.items with
  | some ds => x.flat = true ∧ ds.all D.flat = true ∧ P (.bl (if neg then !inD x ds else inD x ds))
  | _ => False
theorem items_inv {G : Hp} {y : V} {dy : D} {ds : List D} (ry : Rep K G y dy) (h : dy.items = some ds) : ∃ p ys, y = .ref p ∧ (SqL K G p ys ∨ SqT K G p ys) ∧ RepA K G ys ds := by
  cases ry <;> first | (cases h; done) | (cases h; exact ⟨_, _, rfl, .inl (SqL.of ‹_›), ‹_›⟩) | (cases h; exact ⟨_, _, rfl, .inl ‹_›, ‹_›⟩) | (cases h; exact ⟨_, _, rfl, .inr ‹_›, ‹_›⟩)
theorem sq_ex {G H : Hp} {p : Addr} {ys : List V} (e : Ex G H) (h : SqL K G p ys ∨ SqT K G p ys) : SqL K H p ys ∨ SqT K H p ys := h.elim (fun h => .inl (exl e h)) fun h => .inr (ext e h)
theorem odIn {neg : Bool} : OpD K (rIn K neg) (φIn neg) := fun x y dx dy G H P Q e rx ry p k => by
  unfold φIn at p
  split at p
  · rename_i ds h
    obtain ⟨q, ys, rfl, hs, rs⟩ := items_inv ry h
    exact ⟨q, ys, rfl, sq_ex e hs, flat_of rx p.1, flats_of rs p.2.1, by rw [inD_of rx p.1 rs p.2.1]; exact k _ p.2.2 _ G H (Grow.refl e) (.bl _)⟩
  · exact p.elim

/-! ### subscripts -/
theorem RepA.atI {G : Hp} {vs : List V} {ds : List D} {i : Int} {d : D} (r : RepA K G vs ds) (h : L2.atI ds i = some d) : ∃ v, L2.atI vs i = some v ∧ Rep K G v d := by
  unfold L2.atI at h ⊢
  rw [r.len]
  cases q : ixN ds.length i with
  | none => rw [q] at h; cases h
  | some j =>
    rw [q] at h
    exact r.get h
def φIx (x y : D) (P : D → Prop) : Prop := match x.items, y with
  | some ds, .int i => match L2.atI ds i with
    | some d => P d
    | none => False
  | _, _ => False
theorem odIx : OpD K (rIx K) φIx := fun x y dx dy G H P Q e rx ry p k => by
  unfold φIx at p
  split at p
  · rename_i ds i h
    obtain ⟨q, ys, rfl, hs, rs⟩ := items_inv rx h
    cases ry
    split at p
    · rename_i d hd
      obtain ⟨v, hv, rv⟩ := rs.atI hd
      have kk := k d p v G H (Grow.refl e) rv
      rcases sq_ex e hs with hs | hs
      · exact .inl ⟨q, ys, _, v, rfl, rfl, hs, hv, kk⟩
      · exact .inr (.inl ⟨q, ys, _, v, rfl, rfl, hs, hv, kk⟩)
    · exact p.elim
  · exact p.elim
def φIxS (x y : D) (P : D → Prop) : Prop := match x, y with
  | .str z, .int i => z.length ≤ sizeLine ∧ match L2.atI z.cps.toList i with
    | some c => P (.str ⟨#[c]⟩)
    | none => False
  | _, _ => False
theorem odIxS : OpD K rIxS φIxS := fun x y dx dy G H P Q e rx ry p k => by
  unfold φIxS at p
  split at p
  · cases rx
    cases ry
    obtain ⟨p1, p⟩ := p
    split at p
    · rename_i c hc
      exact ⟨_, _, c, rfl, rfl, p1, hc, k _ p _ G H (Grow.refl e) (.str _)⟩
    · exact p.elim
  · exact p.elim
variable {B : Bs} {W : WX} {X : Cx} {pos : Pos} {a b c e : Expr} {fa fb fc : Fx D}
theorem pd_ix {r : R2} {φ : D → D → (D → Prop) → Prop} (h : IxR X r) (hd : OpD X.K r φ) (ha : PD B W X a fa) (hb : PD B W X b fb) (hs : PlainIx b) : PD B W X (.Subscript a b pos) (wOp φ fa fb) :=
  (pe_ix h ha hb hs).imp fun _ _ _ q => wOp_ok hd q

/-! ### slices -/
def cutD (ds : List D) (lo hi : Option Int) : List D := (ds.drop (HT.sIx ds.length 0 lo)).take (HT.sIx ds.length ds.length hi - HT.sIx ds.length 0 lo)
theorem RepA.cut {G : Hp} {vs : List V} {ds : List D} {lo hi : Option Int} (r : RepA K G vs ds) : RepA K G (cutV vs lo hi) (cutD ds lo hi) := by
  unfold cutV cutD
  rw [r.len]
  exact (r.drop _).take _
variable {fo fh : Fx (Option Int)} {lo hi : Option Expr} {p2 : Pos}
def wNoP : Fx (Option Int) := fun _ P _ => P none
def wPart (fa : Fx D) : Fx (Option Int) := fun env P R => fa env (fun d => match d with | .int i => P (some i) | _ => False) R
theorem pdo_none : PDO B W X none wNoP := po_none.imp fun σ H Q ⟨G, env, P, R, rel, hF, hP, hR⟩ => hP _ hF G H (Grow.refl rel.gh)
theorem pdo_some (h : PD B W X a fa) : PDO B W X (some a) (wPart fa) := (po_some h).imp fun σ H Q ⟨G, env, P, R, rel, hF, hP, hR⟩ => ⟨G, env, _, R, rel, hF, fun d pd v G2 H2 g2 rv => by
  cases d <;> first | exact pd.elim | skip
  exact ⟨_, rv.int_inv, hP _ pd _ _ g2⟩, hR⟩
def wSl (φ : D → Option Int → Option Int → (D → Prop) → Prop) (fa : Fx D) (fo fh : Fx (Option Int)) : Fx D := fun env P R => fa env (fun x => fo env (fun l => fh env (fun u => φ x l u P) R) R) R
def SlD (K : PySem.W.Frag) (r : V → Option Int → Option Int → Hp → VK → Prop) (φ : D → Option Int → Option Int → (D → Prop) → Prop) : Prop := ∀ (x : V) (dx : D) (l u : Option Int) (G H : Hp) (P : D → Prop) (Q : VK), Ex G H → Rep K G x dx → φ dx l u P →
  (∀ d, P d → ∀ v G' H', Grow G H G' H' → Rep K G' v d → Q v H') → r x l u H Q
theorem pd_sl {r : V → Option Int → Option Int → Hp → VK → Prop} {φ : D → Option Int → Option Int → (D → Prop) → Prop} (h : L2.SlR X r) (hd : SlD X.K r φ) (ha : PD B W X a fa) (hl : PDO B W X lo fo) (hh : PDO B W X hi fh) :
    PD B W X (.Subscript a (.Slice lo hi none p2) pos) (wSl φ fa fo fh) :=
  (pe_slice h ha hl hh).imp fun σ H Q ⟨G, env, P, R, rel, hF, hP, hR⟩ => ⟨G, env, _, R, rel, hF, fun dx px x G1 H1 g1 rx => ⟨G1, env, _, R, rel.grow g1, px, fun l pl G2 H2 g2 => ⟨G2, env, _, R, rel.grow (g1.trans g2), pl, fun u pu G3 H3 g3 =>
    hd x dx l u G3 H3 P Q g3.gh (rx.ex (g2.g.trans g3.g)) pu fun d pd v G4 H4 g4 rv => hP d pd v G4 H4 ((g1.trans g2).trans (g3.trans g4)) rv, fun e re => (hR e re).grow (g1.trans g2)⟩, fun e re => (hR e re).grow g1⟩, hR⟩
def φSlT : D → Option Int → Option Int → (D → Prop) → Prop
  | .tup ds, l, u, P => P (.tup (cutD ds l u))
  | _, _, _, _ => False
theorem sdT : SlD K (rSlA K) φSlT := fun x dx l u G H P Q e rx p k => by
  cases dx <;> first | exact p.elim | skip
  obtain ⟨a, xs, rfl, hs, rs⟩ := rx.tup_inv
  refine ⟨a, xs, rfl, ext e hs, fun hw => ?_, fun _ t nt => k _ p _ _ _ (Grow.new e nt) (.tup (SqT.of upd_same) (rs.cut.ex (exn (Evl.fresh_back e nt))))⟩
  refine k _ p _ G H (Grow.refl e) (.tup hs ?_)
  have : cutV xs l u = xs := by
    unfold cutV
    rw [hw.1, hw.2, List.drop_zero, Nat.sub_zero]
    exact List.take_length
  rw [← this]
  exact rs.cut
def φSlS : D → Option Int → Option Int → (D → Prop) → Prop
  | .str z, l, u, P => z.length ≤ sizeLine ∧ P (.str (cutS z l u))
  | _, _, _, _ => False
theorem sdS : SlD K rSlS φSlS := fun x dx l u G H P Q e rx p k => by
  cases dx <;> first | exact p.elim | skip
  cases rx
  exact ⟨_, rfl, p.1, k _ p.2 _ G H (Grow.refl e) (.str _)⟩
/-- of a list: a new list -/
def wSlL (fa : Fx D) (fo fh : Fx (Option Int)) : Fx (List D) := fun env P R => fa env (fun x => fo env (fun l => fh env (fun u => match x with | .lst ds => P (cutD ds l u) | _ => False) R) R) R
theorem pl_sl (ha : PD B W X a fa) (hl : PDO B W X lo fo) (hh : PDO B W X hi fh) : PL B W X (.Subscript a (.Slice lo hi none p2) pos) (wSlL fa fo fh) :=
  (pe_slice sl_list ha hl hh).imp fun σ H Q ⟨G, env, P, R, rel, hF, hP, hR⟩ => ⟨G, env, _, R, rel, hF, fun dx px x G1 H1 g1 rx => ⟨G1, env, _, R, rel.grow g1, px, fun l pl G2 H2 g2 => ⟨G2, env, _, R, rel.grow (g1.trans g2), pl, fun u pu G3 H3 g3 => by
    have g := (g1.trans g2).trans g3
    cases dx <;> first | exact pu.elim | skip
    obtain ⟨q, xs, rfl, hs, rs⟩ := rx.lst_inv
    exact ⟨q, xs, rfl, SqL.of (g3.gh _ _ ((g2.trans g3).g _ _ hs)), fun p np => hP _ pu p _ G3 _ (g.trans (Grow.own g3.gh np)) (Evl.fresh_back g.h np) (Evl.fresh_back g3.gh np) upd_same ((rs.ex (g2.trans g3).g).cut)⟩,
    fun e re => (hR e re).grow (g1.trans g2)⟩, fun e re => (hR e re).grow g1⟩, hR⟩

/-! ### + of tuples, of lists -/
def φCatT : D → D → (D → Prop) → Prop
  | .tup a, .tup b, P => a.length + b.length ≤ sizeLine ∧ P (.tup (a ++ b))
  | _, _, _ => False
theorem odCatT : OpD K (rCatA K) φCatT := fun x y dx dy G H P Q e rx ry p k => by
  cases dx <;> first | exact p.elim | skip
  cases dy <;> first | exact p.elim | skip
  obtain ⟨a, xs, rfl, hx, rx⟩ := rx.tup_inv
  obtain ⟨b, ys, rfl, hy, ry⟩ := ry.tup_inv
  refine ⟨a, b, xs, ys, rfl, rfl, ext e hx, ext e hy, by rw [rx.len, ry.len]; exact p.1, fun z => ?_, fun _ z => ?_, fun _ _ t nt => ?_⟩
  · subst z
    cases rx
    exact k _ p.2 _ G H (Grow.refl e) (.tup hy ry)
  · subst z
    cases ry
    refine k _ p.2 _ G H (Grow.refl e) (.tup hx ?_)
    rw [List.append_nil]
    exact rx
  · exact k _ p.2 _ _ _ (Grow.new e nt) (.tup (SqT.of upd_same) ((rx.app ry).ex (exn (Evl.fresh_back e nt))))
/-- lists: a new list -/
def wOpL (φ : D → D → (List D → Prop) → Prop) (fa fb : Fx D) : Fx (List D) := fun env P R => fa env (fun x => fb env (fun y => φ x y P) R) R
def φCatL : D → D → (List D → Prop) → Prop
  | .lst a, .lst b, P => a.length + b.length ≤ sizeLine ∧ P (a ++ b)
  | _, _, _ => False
theorem pl_cat (ha : PD B W X a fa) (hb : PD B W X b fb) : PL B W X (.BinOp a .Add b pos) (wOpL φCatL fa fb) :=
  (pe_op op_cat ha hb).imp fun σ H Q ⟨G, env, P, R, rel, hF, hP, hR⟩ => two rel hF hR fun x y dx dy G' H' g rx ry p => by
    cases dx <;> first | exact p.elim | skip
    cases dy <;> first | exact p.elim | skip
    obtain ⟨a, xs, rfl, hx, rx⟩ := rx.lst_inv
    obtain ⟨b, ys, rfl, hy, ry⟩ := ry.lst_inv
    exact ⟨a, b, xs, ys, rfl, rfl, g.gh _ _ hx, g.gh _ _ hy, by rw [rx.len, ry.len]; exact p.1, fun t nt => hP _ p.2 t _ G' _ (g.trans (Grow.own g.gh nt)) (Evl.fresh_back g.h nt) (Evl.fresh_back g.gh nt) upd_same (rx.app ry)⟩
end
end Pd
set_option maxRecDepth 100000
set_option maxHeartbeats 4000000
/-! statements, loops, calls -/
namespace Pd
open PySem PySem.Spec PyProof.Rows L2 Pre
section
variable {B : Bs} {W : WX} {X : Cx} {pos : Pos} {a b c e : Expr} {fa fb fc : Fx D} {ga : Fx Bool} {f g h : Fs} {st : Stmt} {rest : List Stmt} {fl : Fx (List D)} {fk : Fx (List Key × List D)}

def wNext : Fs := fun env P => P (.nx env)
def wSeq (f g : Fs) : Fs := fun env P => f env (fun o => match o with | .nx e => g e P | .bk e => P (.bk e) | .ct e => P (.ct e) | .rt d => P (.rt d) | .er e r => P (.er e r))
theorem pdss_nil : PDss B W X [] wNext := pss_nil.imp fun Dn σ H ⟨G, env, P, rel, hF, ok⟩ => ok.nx _ hF σ G H ex0 rel
theorem pdss_cons (h1 : PDs B W X st f) (h2 : PDss B W X rest g) : PDss B W X (st :: rest) (wSeq f g) :=
  (pss_cons h1 h2).imp fun Dn σ H ⟨G, env, P, rel, hF, ok⟩ => ⟨G, env, _, rel, hF,
    ⟨fun env1 p σ' G' H' x rel' => ⟨G', env1, P, rel', p, ok.ex x⟩, ok.bk, ok.ct, ok.rt, ok.er⟩⟩
theorem pdss_one (h1 : PDs B W X st f) : PDss B W X [st] f := pss_one h1
def wBreak : Fs := fun env P => P (.bk env)
def wCont : Fs := fun env P => P (.ct env)
theorem pds_pass : PDs B W X (.Pass pos) wNext := ps_pass.imp fun Dn σ H ⟨G, env, P, rel, hF, ok⟩ => ok.nx _ hF σ G H ex0 rel
theorem pds_break : PDs B W X (.Break pos) wBreak := ps_break.imp fun Dn σ H ⟨G, env, P, rel, hF, ok⟩ => ok.bk _ hF σ G H ex0 rel
theorem pds_continue : PDs B W X (.Continue pos) wCont := ps_continue.imp fun Dn σ H ⟨G, env, P, rel, hF, ok⟩ => ok.ct _ hF σ G H ex0 rel
theorem pds_doc {x j pos pos'} : PDs B W X (.Expr (.Constant (.str x) j pos) pos') wNext := ps_doc.imp fun Dn σ H ⟨G, env, P, rel, hF, ok⟩ => ok.nx _ hF σ G H ex0 rel
def wNever : Fs := fun _ _ => False
theorem pds_never : PDs B W X st wNever := ps_never.imp fun Dn σ H ⟨G, env, P, rel, hF, ok⟩ => hF
theorem pdss_never : PDss B W X rest wNever := pss_never.imp fun Dn σ H ⟨G, env, P, rel, hF, ok⟩ => hF
def wDrop (fa : Fx D) : Fs := fun env P => fa env (fun _ => P (.nx env)) (fun e => P (.er env e))
theorem pds_expr (he : PD B W X a fa) (hs : swapsWith a none pos.line X.env = pure false := by rfl) : PDs B W X (.Expr a pos) (wDrop fa) :=
  (ps_expr he hs).imp fun Dn σ H ⟨G, env, P, rel, hF, ok⟩ => ⟨G, env, _, _, rel, hF, fun d pd v G1 H1 g1 rv => ok.nx _ pd σ G1 H1 g1.g (rel.grow g1), ok.err rel⟩
def wRet (fa : Fx D) : Fs := fun env P => fa env (fun d => P (.rt d)) (fun e => P (.er env e))
theorem pds_ret (he : PD B W X a fa) : PDs B W X (.Return (some a) pos) (wRet fa) :=
  (ps_ret he).imp fun Dn σ H ⟨G, env, P, rel, hF, ok⟩ => ⟨G, env, _, _, rel, hF, fun d pd v G1 H1 g1 rv => ok.rt _ pd v G1 H1 (rel.all.trans g1) rv, ok.err rel⟩
def wRetN : Fs := fun _ P => P (.rt .non)
theorem pds_retN : PDs B W X (.Return none pos) wRetN := ps_retN.imp fun Dn σ H ⟨G, env, P, rel, hF, ok⟩ => ok.rt _ hF .non G H rel.all .non
def wIfS (gc : Fx Bool) (f g : Fs) : Fs := fun env P => gc env (fun x => if x = true then f env P else g env P) (fun e => P (.er env e))
theorem pds_if {t u : List Stmt} (hc : PQ B W X c ga) (ha : PDss B W X t f) (hb : PDss B W X u g) : PDs B W X (.If c t u pos) (wIfS ga f g) :=
  (ps_if hc ha hb).imp fun Dn σ H ⟨G, env, P, rel, hF, ok⟩ => ⟨G, env, _, _, rel, hF, fun x px G1 H1 g1 => by
    cases x with
    | true => exact ⟨G1, env, P, rel.grow g1, px, ok.ex g1.g⟩
    | false => exact ⟨G1, env, P, rel.grow g1, px, ok.ex g1.g⟩, ok.err rel⟩

/-! ### stores -/
def wSet (i : Nat) (fa : Fx D) : Fs := fun env P => fa env (fun d => P (.nx (env.set i (.v d)))) (fun e => P (.er env e))
theorem pds_set {i : Nat} {x : Str} {pos' : Pos} (hN : X.N.Nodup) (hi : X.N[i]? = some x) (hx : Loc X.env.scope x) (he : PD B W X a fa) (hs : swapsWith a (some (.Name x pos')) pos.line X.env = pure false := by rfl) (hf : X.fn x = true ∨ X.env.scope.names.lookup x = some .local := by first | exact .inl rfl | exact .inr rfl | assumption) :
    PDs B W X (.Assign [.Name x pos'] a pos) (wSet i fa) :=
  (ps_set hN hi hx he hs hf).imp fun Dn σ H ⟨G, env, P, rel, hF, ok⟩ => ⟨G, env, _, _, rel, hF, fun d pd v G1 H1 g1 rv => ok.nx _ pd _ G1 H1 g1.g ((rel.grow g1).setv rv i), ok.err rel⟩
/-- a new list, one's own from now on -/
def wSetL (i : Nat) (fl : Fx (List D)) : Fs := fun env P => fl env (fun ds => P (.nx (env.set i (.l ds)))) (fun e => P (.er env e))
theorem Rel.newL {G H G1 H1 : Hp} {σ : L2.St} {env : En} {K : PySem.W.Frag} {p : Addr} {vs : List V} {ds : List D} (rel : Rel K B G σ H env) (g1 : Grow G H G1 H1) (n1 : H p = none) (n2 : G1 p = none) (h1 : H1 p = some (.lst vs)) (rv : RepA K G1 vs ds) (i : Nat) :
    Rel K B G1 (σ.set i (some (.ref p))) H1 (env.set i (.l ds)) := (rel.grow g1).seto (s := .l ds) ⟨vs, h1, rv⟩ n2 (rel.newB n1) (rel.fresh n1) i
theorem pds_setL {i : Nat} {x : Str} {pos' : Pos} (hN : X.N.Nodup) (hi : X.N[i]? = some x) (hx : Loc X.env.scope x) (he : PL B W X a fl) (hs : swapsWith a (some (.Name x pos')) pos.line X.env = pure false := by rfl) (hf : X.fn x = true ∨ X.env.scope.names.lookup x = some .local := by first | exact .inl rfl | exact .inr rfl | assumption) :
    PDs B W X (.Assign [.Name x pos'] a pos) (wSetL i fl) :=
  (ps_set hN hi hx he hs hf).imp fun Dn σ H ⟨G, env, P, rel, hF, ok⟩ => ⟨G, env, _, _, rel, hF, fun ds pd p vs G1 H1 g1 n1 n2 h1 rv => ok.nx _ pd _ G1 H1 g1.g (rel.newL g1 n1 n2 h1 rv i), ok.err rel⟩
def wSetK (i : Nat) (fk : Fx (List Key × List D)) : Fs := fun env P => fk env (fun x => P (.nx (env.set i (.k x.1 x.2)))) (fun e => P (.er env e))
theorem pds_setK {i : Nat} {x : Str} {pos' : Pos} (hN : X.N.Nodup) (hi : X.N[i]? = some x) (hx : Loc X.env.scope x) (he : PK' B W X a fk) (hs : swapsWith a (some (.Name x pos')) pos.line X.env = pure false := by rfl) (hf : X.fn x = true ∨ X.env.scope.names.lookup x = some .local := by first | exact .inl rfl | exact .inr rfl | assumption) :
    PDs B W X (.Assign [.Name x pos'] a pos) (wSetK i fk) :=
  (ps_set hN hi hx he hs hf).imp fun Dn σ H ⟨G, env, P, rel, hF, ok⟩ => ⟨G, env, _, _, rel, hF, fun ds pd p vs G1 H1 g1 n1 n2 h1 ek rv => ok.nx _ pd _ G1 H1 g1.g
    ((rel.grow g1).seto (s := .k ds.1 ds.2) ⟨vs, h1, ek, rv⟩ n2 (rel.newB n1) (rel.fresh n1) i), ok.err rel⟩

/-! ### targets -/
abbrev Tg := D → En → Option En
def tgd (K : PySem.W.Frag) (B : Bs) (s : Tg) : TG := fun v σ H Q => ∃ G env d env', Rel K B G σ H env ∧ Rep K G v d ∧ s d env = some env' ∧ ∀ σ', Rel K B G σ' H env' → Q σ' H
def PGd (B : Bs) (X : Cx) (tg : Expr) (s : Tg) : Prop := PG X tg (tgd X.K B s)
theorem _root_.L2.PG.imp {X : Cx} {e : Expr} {t t' : TG} (h : PG X e t) (k : ∀ v σ H Q, t' v σ H Q → t v σ H Q) : PG X e t' := ⟨fun pins s σ H v u Q I r q => h.run pins s σ H v u Q I r (k v σ H Q q)⟩
theorem _root_.L2.PGs.imp {X : Cx} {e : List Expr} {t t' : TGs} (h : PGs X e t) (k : ∀ v σ H Q, t' v σ H Q → t v σ H Q) : PGs X e t' := ⟨fun pins s σ H v u Q I r q => h.run pins s σ H v u Q I r (k v σ H Q q)⟩
def sName (i : Nat) : Tg := fun d env => some (env.set i (.v d))
theorem pgd_name {i : Nat} {x : Str} (hN : X.N.Nodup) (hi : X.N[i]? = some x) (hx : Loc X.env.scope x) (hf : X.fn x = true ∨ X.env.scope.names.lookup x = some .local := by first | exact .inl rfl | exact .inr rfl | assumption) : PGd B X (.Name x pos) (sName i) :=
  (pg_name hN hi hx hf).imp fun v σ H Q ⟨G, env, d, env', rel, r, e, k⟩ => by
    cases e
    exact k _ (rel.setv r i)
abbrev Tgs := List D → En → Option En
def tgds (K : PySem.W.Frag) (B : Bs) (s : Tgs) : TGs := fun vs σ H Q => ∃ G env ds env', Rel K B G σ H env ∧ RepA K G vs ds ∧ s ds env = some env' ∧ ∀ σ', Rel K B G σ' H env' → Q σ' H
def PGds (B : Bs) (X : Cx) (tg : List Expr) (s : Tgs) : Prop := PGs X tg (tgds X.K B s)
def sNil : Tgs := fun ds env => match ds with | [] => some env | _ => none
def sCons (s : Tg) (t : Tgs) : Tgs := fun ds env => match ds with
  | d :: r => match s d env with
    | some e => t r e
    | none => none
  | [] => none
theorem pgds_nil : PGds B X [] sNil := pgs_nil.imp fun vs σ H Q ⟨G, env, ds, env', rel, r, e, k⟩ => by
  cases r <;> cases e
  exact ⟨rfl, k _ rel⟩
theorem pgds_cons {es : List Expr} {s : Tg} {t : Tgs} (h1 : PGd B X e s) (h2 : PGds B X es t) (hs : (assignEach (e :: es) X.env).map (·.2) = assign e X.env :: (assignEach es X.env).map (·.2) := by rfl) : PGds B X (e :: es) (sCons s t) :=
  (pgs_cons h1 h2 hs).imp fun vs σ H Q ⟨G, env, ds, env', rel, r, e, k⟩ => by
    cases r with
    | nil => cases e
    | cons rv rs =>
      simp only [sCons] at e
      split at e
      · rename_i env1 e1
        exact ⟨_, _, rfl, G, env, _, env1, rel, rv, e1, fun σ1 rel1 => ⟨G, env1, _, env', rel1, rs, e, k⟩⟩
      · cases e
def sTup (n : Nat) (t : Tgs) : Tg := fun d env => match d with
  | .tup ds => if ds.length = n then t ds env else none
  | _ => none
theorem pgd_tup {es : List Expr} {k : Nat} {t : Tgs} {n : Nat} (hc : X.calm = true) (h : PGds B X es t) (hn : (assignEach es X.env).length = n := by rfl) (hst : (assignEach es X.env).findIdx? (·.1) = none := by rfl) : PGd B X (.Tuple es k pos) (sTup n t) :=
  (pg_tup hc h hn hst).imp fun v σ H Q ⟨G, env, d, env', rel, r, e, k⟩ => by
    cases d <;> first | (cases e; done) | skip
    simp only [sTup] at e
    split at e
    · rename_i hl
      obtain ⟨a, xs, rfl, hs, rs⟩ := r.tup_inv
      exact ⟨a, xs, rfl, ext rel.gh hs, by rw [rs.len]; exact hl, G, env, _, env', rel, rs, e, k⟩
    · cases e
def wAsg (fa : Fx D) (s : Tg) : Fs := fun env P => fa env (fun d => match s d env with | some e => P (.nx e) | none => False) (fun e => P (.er env e))
theorem pds_asg {tg : Expr} {s : Tg} (he : PD B W X e fa) (hg : PGd B X tg s) (hs : swapsWithSole [tg] e pos.line X.env = pure false := by rfl) (hw : swappedStores [tg] e X.env = pure none := by rfl)
    (h1 : (assignEach [tg] X.env).map (·.2) = [assign tg X.env] := by rfl) : PDs B W X (.Assign [tg] e pos) (wAsg fa s) :=
  (ps_asg he hg hs hw h1).imp fun Dn σ H ⟨G, env, P, rel, hF, ok⟩ => ⟨G, env, _, _, rel, hF, fun d pd v G1 H1 g1 rv => by
    split at pd
    · rename_i env1 e1
      exact ⟨G1, env, d, env1, rel.grow g1, rv, e1, fun σ' rel' => ok.nx _ pd _ G1 H1 g1.g rel'⟩
    · exact pd.elim, ok.err rel⟩
/-- a, b = x, y with two local names -/
def wPar (i j : Nat) (fa fb : Fx D) : Fs := fun env P => fa env (fun x => fb env (fun y => P (.nx ((env.set i (.v x)).set j (.v y)))) (fun e => P (.er env e))) (fun e => P (.er env e))
theorem pds_par {i j : Nat} {x y : Str} {px py pt : Pos} {kt k2 pt2} (hc : X.calm = true) (hN : X.N.Nodup) (hi : X.N[i]? = some x) (hj : X.N[j]? = some y) (hij : i ≠ j)
    (hx : X.env.scope.names.lookup x = some .local) (hy : X.env.scope.names.lookup y = some .local) (ha : PD B W X a fa) (hb : PD B W X b fb)
    (hw : swappedStores [.Tuple [.Name x px, .Name y py] kt pt] (.Tuple [a, b] k2 pt2) X.env = pure (some [x, y]))
    (hs : swapsWithSole [.Tuple [.Name x px, .Name y py] kt pt] (.Tuple [a, b] k2 pt2) pos.line X.env = pure false := by rfl)
    (s1 : starEach [a, b] X.env = (false, eval a X.env) :: starEach [b] X.env := by rfl) (s2 : starEach [b] X.env = (false, eval b X.env) :: starEach [] X.env := by rfl) :
    PDs B W X (.Assign [.Tuple [.Name x px, .Name y py] kt pt] (.Tuple [a, b] k2 pt2) pos) (wPar i j fa fb) :=
  (ps_par hc hN hi hj hij hx hy (pa_cons ha (pa_cons hb pa_nil s2) s1) hw hs).imp fun Dn σ H ⟨G, env, P, rel, hF, ok⟩ =>
    ⟨G, env, _, _, rel, hF, fun dx px vx G1 H1 g1 rx => ⟨G1, env, _, _, rel.grow g1, px, fun dy py vy G2 H2 g2 ry => ⟨vx, vy, rfl, ok.nx _ py _ G2 H2 (g1.trans g2).g (((rel.grow (g1.trans g2)).setv (rx.ex g2.g) i).setv ry j)⟩,
      fun e p => ((ok.err rel) e p).grow g1⟩, ok.err rel⟩
/-- x op= e -/
def wAug (i : Nat) (φ : D → D → (D → Prop) → Prop) (fa : Fx D) : Fs := fun env P => match env[i]? with
  | some (.v d) => fa env (fun y => φ d y (fun z => P (.nx (env.set i (.v z))))) (fun e => P (.er env e))
  | _ => False
theorem pds_aug {i : Nat} {x : Str} {op : Operator} {r : R2} {φ : D → D → (D → Prop) → Prop} {pos' : Pos} (hN : X.N.Nodup) (hi : X.N[i]? = some x) (hx : Loc X.env.scope x) (he : PD B W X e fa) (ho : PIp X op r) (hd : OpD X.K r φ)
    (hf : X.fn x = true ∨ X.env.scope.names.lookup x = some .local := by first | exact .inl rfl | exact .inr rfl | assumption) : PDs B W X (.AugAssign (.Name x pos') op e pos) (wAug i φ fa) :=
  (ps_aug hN hi hx he ho hf).imp fun Dn σ H ⟨G, env, P, rel, hF, ok⟩ => by
    unfold wAug at hF
    split at hF
    · rename_i d h
      obtain ⟨v, e1, r⟩ := rel.val h
      exact ⟨v, e1, G, env, _, _, rel, hF, fun dy py vy G1 H1 g1 ry => hd v vy d dy G1 H1 _ _ g1.gh (r.ex g1.g) ry py fun dz pz z G2 H2 g2 rz => ok.nx _ pz _ G2 H2 (g1.trans g2).g ((rel.grow (g1.trans g2)).setv rz i), ok.err rel⟩
    · exact hF.elim
theorem ip_addD : PIp X .Add (rI0 fun i j => .int (i + j)) := ip_add
theorem ip_subD : PIp X .Sub (rI0 fun i j => .int (i - j)) := ip_sub

/-! ### one's own lists -/
def wApp (i : Nat) (fa : Fx D) : Fs := fun env P => fa env (fun d => match env[i]? with | some (.l ds) => ds.length < sizeLine ∧ P (.nx (env.set i (.l (ds ++ [d])))) | _ => False) (fun e => P (.er env e))
theorem get_own {env : En} {i : Nat} {ds : List D} {K : PySem.W.Frag} {G H : Hp} {σ : L2.St} (rel : Rel K B G σ H env) (h : env[i]? = some (.l ds)) : ∃ p vs, σ[i]? = some (some (.ref p)) ∧ G p = none ∧ H p = some (.lst vs) ∧ RepA K G vs ds := by
  obtain ⟨p, h1, h2, h3, vs, h4, h5⟩ := rel.own h rfl
  exact ⟨p, vs, h1, h2, h4, h5⟩
theorem get_ownK {env : En} {i : Nat} {ks : List Key} {ds : List D} {K : PySem.W.Frag} {G H : Hp} {σ : L2.St} (rel : Rel K B G σ H env) (h : env[i]? = some (.k ks ds)) : ∃ p, ∃ kvs : List (Key × V), σ[i]? = some (some (.ref p)) ∧ G p = none ∧ H p = some (.dK kvs) ∧ kvs.map (·.1) = ks ∧ RepA K G (kvs.map (·.2)) ds := by
  obtain ⟨p, h1, h2, h3, kvs, h4, h5, h6⟩ := rel.own h rfl
  exact ⟨p, kvs, h1, h2, h4, h5, h6⟩
/-- xs.append(e) in terms of the hand layer's rule for a method -/
theorem wApp_ok {K : PySem.W.Frag} {i : Nat} {Dn : Ends} {σ : L2.St} {H : Hp} (h : tS K B W (wApp i fa) Dn σ H) (hg : ∀ env P R, fa env P R → ∃ ds, env[i]? = some (.l ds)) : tDrop (tBM K "list" rAppend (tVar i) (tCons (tP K B W fa) tNil)) Dn σ H := by
  obtain ⟨G, env, P, rel, hF, ok⟩ := h
  obtain ⟨ds, he⟩ := hg _ _ _ hF
  obtain ⟨p, vs, s1, s2, s3, s4⟩ := get_own rel he
  refine ⟨.ref p, s1, .inl ⟨rfl, vs, SqL.of s3⟩, G, env, _, _, rel, hF, fun d pd v G1 H1 g1 rv => ?_, ok.err rel⟩
  rw [he] at pd
  obtain ⟨p1, p2⟩ := pd
  refine ⟨p, vs, v, rfl, rfl, g1.h _ _ s3, by rw [s4.len]; exact p1, ok.nx _ p2 _ G1 _ g1.g ((rel.grow g1).mut he rfl s1 (s' := .l (ds ++ [d])) ⟨vs ++ [v], upd_same, (s4.ex g1.g).app (.one rv)⟩)⟩
/-- the same where the slot is known to be one's own only behind e -/
def wApp' (i : Nat) (fa : Fx D) : Fs := fun env P => match env[i]? with
  | some (.l ds) => fa env (fun d => ds.length < sizeLine ∧ P (.nx (env.set i (.l (ds ++ [d]))))) (fun e => P (.er env e))
  | _ => False
theorem wApp'_ok {K : PySem.W.Frag} {i : Nat} {Dn : Ends} {σ : L2.St} {H : Hp} (h : tS K B W (wApp' i fa) Dn σ H) : tDrop (tBM K "list" rAppend (tVar i) (tCons (tP K B W fa) tNil)) Dn σ H := by
  obtain ⟨G, env, P, rel, hF, ok⟩ := h
  unfold wApp' at hF
  split at hF
  · rename_i ds he
    obtain ⟨p, vs, s1, s2, s3, s4⟩ := get_own rel he
    refine ⟨.ref p, s1, .inl ⟨rfl, vs, SqL.of s3⟩, G, env, _, _, rel, hF, fun d pd v G1 H1 g1 rv => ?_, ok.err rel⟩
    obtain ⟨p1, p2⟩ := pd
    exact ⟨p, vs, v, rfl, rfl, g1.h _ _ s3, by rw [s4.len]; exact p1, ok.nx _ p2 _ G1 _ g1.g ((rel.grow g1).mut he rfl s1 (s' := .l (ds ++ [d])) ⟨vs ++ [v], upd_same, (s4.ex g1.g).app (.one rv)⟩)⟩
  · exact hF.elim
theorem pds_append {i : Nat} (h : PS X st (tDrop (tBM X.K "list" rAppend (tVar i) (tCons (tP X.K B W fa) tNil)))) : PDs B W X st (wApp' i fa) := h.imp fun _ _ _ q => wApp'_ok q
/-- xs.extend(e) -/
def wExt (i : Nat) (fa : Fx D) : Fs := fun env P => match env[i]? with
  | some (.l ds) => fa env (fun d => match d with | .lst es => ds.length + es.length ≤ sizeLine ∧ P (.nx (env.set i (.l (ds ++ es)))) | _ => False) (fun e => P (.er env e))
  | _ => False
theorem pds_extend {i : Nat} (h : PS X st (tDrop (tBM X.K "list" rExtend (tVar i) (tCons (tP X.K B W fa) tNil)))) : PDs B W X st (wExt i fa) := h.imp fun Dn σ H ⟨G, env, P, rel, hF, ok⟩ => by
  unfold wExt at hF
  split at hF
  · rename_i ds he
    obtain ⟨p, vs, s1, s2, s3, s4⟩ := get_own rel he
    refine ⟨.ref p, s1, .inl ⟨rfl, vs, SqL.of s3⟩, G, env, _, _, rel, hF, fun d pd v G1 H1 g1 rv => ?_, ok.err rel⟩
    cases d <;> first | exact pd.elim | skip
    obtain ⟨p1, p2⟩ := pd
    obtain ⟨q, ws, rfl, hq, rq⟩ := rv.lst_inv
    exact ⟨p, q, vs, ws, rfl, rfl, g1.h _ _ s3, g1.gh _ _ hq, by rw [s4.len, rq.len]; exact p1, ok.nx _ p2 _ G1 _ g1.g ((rel.grow g1).mut he rfl s1 (s' := .l (ds ++ _)) ⟨_, upd_same, (s4.ex g1.g).app rq⟩)⟩
  · exact hF.elim
/-- xs[k] = e -/
def wPut (i : Nat) (fa fb : Fx D) : Fs := fun env P => fa env (fun d => match env[i]? with
  | some (.l ds) => fb env (fun x => match x with
    | .int k => match ixN ds.length k with
      | some j => P (.nx (env.set i (.l (ds.set j d))))
      | none => False
    | _ => False) (fun e => P (.er env e))
  | _ => False) (fun e => P (.er env e))
theorem pds_put {i : Nat} (h : PS X st (tAsg (tP X.K B W fa) (gSub (tVar i) (tP X.K B W fb) rSetL))) : PDs B W X st (wPut i fa fb) := h.imp fun Dn σ H ⟨G, env, P, rel, hF, ok⟩ =>
  ⟨G, env, _, _, rel, hF, fun d pd v G1 H1 g1 rv => by
    split at pd
    · rename_i ds he
      have rel1 := rel.grow g1
      obtain ⟨p, vs, s1, s2, s3, s4⟩ := get_own rel1 he
      refine ⟨.ref p, s1, G1, env, _, _, rel1, pd, fun x px vx G2 H2 g2 rx => ?_, fun e p => ((ok.err rel) e p).grow g1⟩
      cases x <;> first | exact px.elim | skip
      cases rx
      simp only at px
      split at px
      · rename_i j hj
        exact ⟨p, vs, _, j, rfl, rfl, g2.h _ _ s3, by rw [s4.len]; exact hj, ok.nx _ px _ G2 _ (g1.trans g2).g ((rel1.grow g2).mut he rfl s1 (s' := .l (ds.set j d)) ⟨_, upd_same, (s4.ex g2.g).set (rv.ex g2.g) j⟩)⟩
      · exact px.elim
    · exact pd.elim, ok.err rel⟩
/-- one's own is let go ahead of what follows -/
def letGo (env : En) (i : Nat) : En := match env[i]? with
  | some (.l ds) => env.set i (.v (.lst ds))
  | some (.k ks ds) => env.set i (.v (.dic ks ds))
  | some (.i _ C ns ds) => env.set i (.v (.obj C ns ds))
  | _ => env
theorem Rel.letGo {K : PySem.W.Frag} {G H : Hp} {σ : L2.St} {env : En} (rel : Rel K B G σ H env) (i : Nat) : ∃ G', Ex G G' ∧ Rel K B G' σ H (letGo env i) := by
  unfold Pd.letGo
  split
  · rename_i ds he
    obtain ⟨p, vs, s1, s2, s3, s4⟩ := get_own rel he
    exact ⟨upd G p (.lst vs), exn s2, rel.let he rfl s1 s3 (.lst upd_same (s4.ex (exn s2)))⟩
  · rename_i ks ds he
    obtain ⟨p, kvs, s1, s2, s3, s4, s5⟩ := get_ownK rel he
    exact ⟨upd G p (.dK kvs), exn s2, rel.let he rfl s1 s3 (.dic upd_same s4 (s5.ex (exn s2)))⟩
  · rename_i q C ns ds he
    obtain ⟨p, s1, s2, _, _, dx, fs, s3, s4, s5⟩ := rel.own he rfl
    exact ⟨upd G p (.ins C dx fs), exn s2, rel.let he rfl s1 s3 (.obj upd_same s4 (s5.ex (exn s2)))⟩
  · exact ⟨G, ex0, rel⟩
def wLet (i : Nat) (f : Fs) : Fs := fun env P => f (letGo env i) P
theorem pdss_let (i : Nat) (h : PDss B W X rest f) : PDss B W X rest (wLet i f) := PSs.imp h fun Dn σ H ⟨G, env, P, rel, hF, ok⟩ => by
  obtain ⟨G', e, rel'⟩ := rel.letGo i
  exact ⟨G', _, P, rel', hF, ok.ex e⟩
theorem pds_let (i : Nat) (h : PDs B W X st f) : PDs B W X st (wLet i f) := PS.imp h fun Dn σ H ⟨G, env, P, rel, hF, ok⟩ => by
  obtain ⟨G', e, rel'⟩ := rel.letGo i
  exact ⟨G', _, P, rel', hF, ok.ex e⟩
/-- lent for an expression whose value is flat -/
def wLend (i : Nat) (fa : Fx D) : Fx D := fun env P R => fa (letGo env i) (fun d => d.flat = true ∧ P d) (fun _ => False)
theorem flat_rep {K : PySem.W.Frag} {G G' : Hp} {v : V} {d : D} (r : Rep K G v d) (h : d.flat = true) : Rep K G' v d := by
  cases r <;> first | (cases h; done) | constructor
theorem Rel.lend {K : PySem.W.Frag} {G H : Hp} {σ : L2.St} {env : En} (rel : Rel K B G σ H env) (i : Nat) : ∃ G1, Rel K B G1 σ H (Pd.letGo env i) ∧ ∀ G2 H2, Grow G1 H G2 H2 → ∃ G3, Grow G H G3 H2 := by
  obtain ⟨G1, e, rel1⟩ := rel.letGo i
  refine ⟨G1, rel1, fun G2 H2 g2 => ⟨fun p => if H p = none then G2 p else G p, ?_, g2.h, ?_, ?_⟩⟩
  · intro p o h
    have : H p ≠ none := by rw [rel.gh _ _ h]; simp
    show (if H p = none then G2 p else G p) = some o
    rw [if_neg this]
    exact h
  · intro p o h
    have h' : (if H p = none then G2 p else G p) = some o := h
    split at h'
    · exact g2.gh _ _ h'
    · exact g2.h _ _ (rel.gh _ _ h')
  · intro p h
    show (if H p = none then G2 p else G p) = G p
    rw [if_neg h]
theorem pd_lend (i : Nat) (h : PD B W X e fa) : PD B W X e (wLend i fa) := PE.imp h fun σ H Q ⟨G, env, P, R, rel, hF, hP, hR⟩ => by
  obtain ⟨G1, rel1, k⟩ := rel.lend i
  exact ⟨G1, _, _, _, rel1, hF, fun d pd v G2 H2 g2 rv => by
    obtain ⟨G3, g3⟩ := k G2 H2 g2
    exact hP d pd.2 v G3 H2 g3 (flat_rep rv pd.1), fun e q => q.elim⟩
def wLendQ (i : Nat) (ga : Fx Bool) : Fx Bool := fun env P R => ga (letGo env i) P (fun _ => False)
theorem pq_lend (i : Nat) (h : PQ B W X e ga) : PQ B W X e (wLendQ i ga) := PT.imp h fun σ H Q ⟨G, env, P, R, rel, hF, hP, hR⟩ => by
  obtain ⟨G1, rel1, k⟩ := rel.lend i
  exact ⟨G1, _, _, _, rel1, hF, fun b pb G2 H2 g2 => by
    obtain ⟨G3, g3⟩ := k G2 H2 g2
    exact hP b pb G3 H2 g3, fun e q => q.elim⟩

/-! ### loops -/
def wLoop (s : Tg) (body : Fs) : List D → Fs
  | [], env, P => P (.nx env)
  | d :: ds, env, P => match s d env with
    | some e => body e (fun o => match o with | .nx e => wLoop s body ds e P | .ct e => wLoop s body ds e P | .bk e => P (.nx e) | .rt d => P (.rt d) | .er e r => P (.er e r))
    | none => False
/-- a walk yields these, from any heap that has grown -/
structure ItOk (K : PySem.W.Frag) (J : It) (G : Hp) (ds : List D) : Prop where
  go : ∀ i H G', Ex G G' → Ex G' H → i < ds.length → J.go i H
  yld : ∀ i H x H' G' d, Ex G G' → Ex G' H → ds[i]? = some d → J.yld i H x H' → ∃ G'', Grow G' H G'' H' ∧ Rep K G'' x d
  stop : ∀ H G', Ex G G' → Ex G' H → J.stop ds.length H
def tI (K : PySem.W.Frag) (B : Bs) (W : WX) (F : Fx (List D)) : TI := fun σ H R => ∃ G env P Re, Rel K B G σ H env ∧ F env P Re ∧ (∀ ds, P ds → ∀ J G' H', Grow G H G' H' → ItOk K J G' ds → R J H') ∧ ∀ e, Re e → ErrTo K G H W σ e
def PDI (B : Bs) (W : WX) (X : Cx) (tg iter : Expr) (F : Fx (List D)) : Prop := PI X tg iter (tI X.K B W F)
theorem _root_.L2.PI.imp {X : Cx} {tg e : Expr} {t t' : TI} (h : PI X tg e t) (k : ∀ σ H Q, t' σ H Q → t σ H Q) : PI X tg e t' := ⟨fun pins s σ H Q I q => h.run pins s σ H Q I (k σ H Q q)⟩
@[irreducible] def wFor (fi : Fx (List D)) (s : Tg) (body : Fs) : Fs := fun env P => fi env (fun ds => wLoop s body ds env P) (fun e => P (.er env e))
theorem pds_for {tg iter : Expr} {body : List Stmt} {fi : Fx (List D)} {s : Tg} (hp : PassesOwn (model X.prog X.w) X.A X.env X.xe) (hc : X.calm = true) (hi : PDI B W X tg iter fi) (hg : PGd B X tg s) (hb : PDss B W X body f)
    (hs : ∀ x, foldedSetIterable iter X.env x = pure x := by intro _; rfl) : PDs B W X (.For tg iter body [] pos) (wFor fi s f) :=
  (ps_for hp hc hi hg hb hs).imp fun Dn σ H ⟨G, env, P, rel, hF, ok⟩ => ⟨G, env, fun ds => wLoop s f ds env P, fun e => P (.er env e), rel, (by unfold wFor at hF; exact hF), fun ds pds J G1 H1 g1 it => by
    refine ⟨fun i m σ' H' => m = ds.length - i ∧ i ≤ ds.length ∧ ∃ G' env', Ex G1 G' ∧ Rel X.K B G' σ' H' env' ∧ wLoop s f (ds.drop i) env' P, ⟨ds.length, rfl, Nat.zero_le _, G1, env, ex0, rel.grow g1, pds⟩, ?_⟩
    rintro i m σ' H' ⟨rfl, hi, G', env', e', rel', hw⟩
    by_cases hlt : i < ds.length
    · refine .inr ⟨it.go i H' G' e' rel'.gh hlt, fun σ' H' => ∃ G' env', Ex G1 G' ∧ Rel X.K B G' σ' H' env' ∧ wLoop s f (ds.drop (i + 1)) env' P, fun σ2 H2 ⟨G2, env2, e2, rel2, w2⟩ => ⟨ds.length - (i + 1), by omega, rfl, hlt, G2, env2, e2, rel2, w2⟩, fun x H2 y => ?_⟩
      obtain ⟨G2, g2, rx⟩ := it.yld i H' x H2 G' ds[i] e' rel'.gh (List.getElem?_eq_getElem hlt) y
      rw [List.drop_eq_getElem_cons hlt] at hw
      simp only [wLoop] at hw
      split at hw
      · rename_i env3 he
        refine ⟨G2, env', _, env3, rel'.grow g2, rx, he, fun σ3 rel3 => ⟨G2, env3, _, rel3, hw, ?_⟩⟩
        have e12 : Ex G1 G2 := e'.trans g2.g
        exact ⟨fun env4 p σ4 G4 H4 x4 rel4 => ⟨G4, env4, e12.trans x4, rel4, p⟩, fun env4 p σ4 G4 H4 x4 rel4 => ok.nx _ p _ _ _ ((g1.g.trans e12).trans x4) rel4, fun env4 p σ4 G4 H4 x4 rel4 => ⟨G4, env4, e12.trans x4, rel4, p⟩, ok.rt, fun env4 r p σ4 G4 H4 x4 => ok.er _ r p _ _ _ ((g1.g.trans e12).trans x4)⟩
      · exact hw.elim
    · have ei : i = ds.length := by omega
      subst ei
      rw [List.drop_length] at hw
      exact .inl ⟨it.stop H' G' e' rel'.gh, ok.nx _ hw _ _ _ (g1.g.trans e') rel'⟩, ok.err rel⟩
def wWh (gc : Fx Bool) (body : Fs) : Nat → Fs
  | 0, _, _ => False
  | n + 1, env, P => gc env (fun b => if b = true then body env (fun o => match o with | .nx e => wWh gc body n e P | .ct e => wWh gc body n e P | .bk e => P (.nx e) | .rt d => P (.rt d) | .er e r => P (.er e r)) else P (.nx env)) (fun e => P (.er env e))
def wWhile (gc : Fx Bool) (body : Fs) : Fs := fun env P => ∃ n, wWh gc body n env P
theorem pds_while {body : List Stmt} (hp : PassesOwn (model X.prog X.w) X.A X.env X.xe) (hc : PQ B W X c ga) (hb : PDss B W X body f) : PDs B W X (.While c body [] pos) (wWhile ga f) :=
  (ps_while hp hc hb).imp fun Dn σ H ⟨G, env, P, rel, ⟨n, hF⟩, ok⟩ => by
    refine ⟨fun m σ' H' => ∃ G' env', Ex G G' ∧ Rel X.K B G' σ' H' env' ∧ wWh ga f m env' P, ⟨n, G, env, ex0, rel, hF⟩, ?_⟩
    rintro m σ' H' ⟨G', env', e', rel', hw⟩
    cases m with
    | zero => exact hw.elim
    | succ m =>
      refine ⟨G', env', _, _, rel', hw, fun b pb G2 H2 g2 => ?_, fun e p => ok.er _ e p _ _ _ e' rel'⟩
      cases b with
      | false => exact ok.nx _ pb _ _ _ (e'.trans g2.g) (rel'.grow g2)
      | true =>
        rw [if_pos rfl]
        refine ⟨fun σ' H' => ∃ G' env', Ex G G' ∧ Rel X.K B G' σ' H' env' ∧ wWh ga f m env' P, fun σ3 H3 q => ⟨m, Nat.lt_succ_self m, q⟩, G2, env', _, rel'.grow g2, pb, ?_⟩
        have e12 : Ex G G2 := e'.trans g2.g
        exact ⟨fun env4 p σ4 G4 H4 x4 rel4 => ⟨G4, env4, e12.trans x4, rel4, p⟩, fun env4 p σ4 G4 H4 x4 rel4 => ok.nx _ p _ _ _ (e12.trans x4) rel4, fun env4 p σ4 G4 H4 x4 rel4 => ⟨G4, env4, e12.trans x4, rel4, p⟩, ok.rt, fun env4 r p σ4 G4 H4 x4 => ok.er _ r p _ _ _ (e12.trans x4)⟩

/-! ### defs -/
abbrev Fd := List D → (D → Prop) → (Err → Prop) → Prop
def spP (K : PySem.W.Frag) (n : Nat) (F : Fd) : Sp := fun vs H Q E => ∃ G ds P R, Ex G H ∧ RepA K G vs ds ∧ ds.length = n ∧ F ds P R ∧ (∀ d, P d → ∀ v G' H', Grow G H G' H' → Rep K G' v d → Q v H') ∧ ∀ e, R e → ErrTo K G H (fun c d _ H => E c d H) [] e
theorem spP_len {K : PySem.W.Frag} {n : Nat} {F : Fd} (vs : List V) (H : Hp) (Q : VK) (E : XK) (h : spP K n F vs H Q E) : vs.length = n := by
  obtain ⟨G, ds, P, R, _, r, hl, _⟩ := h
  rw [r.len, hl]
def fin (P : D → Prop) (R : Err → Prop) : Out → Prop
  | .rt d => P d
  | .nx _ => P .non
  | .er _ e => R e
  | _ => False
def startE (n : Nat) (ds : List D) : En := ds.map Sl.v ++ List.replicate (n - ds.length) Sl.no
theorem ErrTo.slots {K : PySem.W.Frag} {G H : Hp} {E : XK} {σ σ' : L2.St} {e : Err} (h : ErrTo K G H (fun c d _ H => E c d H) σ e) : ErrTo K G H (fun c d _ H => E c d H) σ' e := by cases e <;> exact h
theorem okP {P : Program} {w : World} {K : PySem.W.Frag} {mg : Str → Option Value} {base : Heap} {x qual : Str} {st : Stmt} {f : Addr} {fd : FuncData} {N ps : List Str} {k n : Nat} {F : Fd} (Fn : Fun K x qual st f fd) (S : FnScope N ps (defScope st)) (hn : ps.length = n)
    (hbody : ∀ (cdv : Value) (A : Around) (outer : List Env) (s : Shared) (H : Hp) (E : XK) (B : Bs), Room k (A.deeper (envOfC qual (defScope st) s.heap.objs.size f cdv)) →
      ∃ Fb, PDss B (fun c d _ H => E c d H) (cxOf (L2.CX P w) P w K mg base N qual (defScope st) f cdv A outer s H E) (defBody st) Fb ∧ ∀ ds Q R, ds.length = n → F ds Q R → Fb (startE N.length ds) (fin Q R)) :
    FnOk P w K mg base (L2.CX P w) (k + 1) f fd ps (spP K n F) := by
  refine Fn.okX S (fun vs H Q E h => by rw [hn]; exact spP_len vs H Q E h) fun cdv A outer s H vs Q E hr hsp => ?_
  obtain ⟨G, ds, P', R', eg, r, hl, hF, hP, hR⟩ := hsp
  obtain ⟨Fb, hb, hq⟩ := hbody cdv A outer s H E ⟨G, H⟩ hr
  refine ⟨_, hb, G, startE N.length ds, fin P' R', ?_, hq ds P' R' hl hF, ?_⟩
  · unfold L2.start startE
    rw [r.len]
    exact Rel.start eg r _
  · exact ⟨fun env p σ' G' H' x rel => hP _ p .non G' H' rel.all .non, fun env p => p.elim, fun env p => p.elim, fun d p v G' H' g r => hP d p v G' H' g r, fun env e p σ' G' H' x rel => ((hR e p).grow rel.all).slots⟩
def wCall (n : Nat) (F : Fd) (fas : Fx (List D)) : Fx D := fun env P R => fas env (fun ds => ds.length = n ∧ F ds P R) R
variable {es : List Expr} {fas : Fx (List D)} {k n : Nat} {fn : Addr} {fd : FuncData} {ps : List Str} {F : Fd} {x : Str} {p : Pos}
theorem ErrTo.call {K : PySem.W.Frag} {G H : Hp} {W : WX} {σ : L2.St} {e : Err} (h : ErrTo K G H W σ e) : ErrTo K G H (fun c d _ H => WE W σ c d H) [] e := by cases e <;> exact h
theorem pd_call (hF0 : FnOk X.prog X.w X.K X.mg X.base (L2.CX X.prog X.w) k fn fd ps (spP X.K n F)) (hr : Room k X.A) (hg : Gl X x) (hm : X.mg x = some (.ref fn)) (hk : PySem.W.keepIn X.K (.ref fn) = true) (hb : Binds X.K fd ps []) (tk : Takes X W)
    (ha : PDA B W X (e :: es) fas) (hdb : (x == ("__debug__" : Str)) = false := by decide) (he : starEach (e :: es) X.env = (false, eval e X.env) :: starEach es X.env := by rfl) (hpl : (backTo pos (starEach es X.env)).any (·.1) = false := by rfl) :
    PD B W X (.Call (.Name x p) (e :: es) [] pos) (wCall n F fas) :=
  (pe_callS hF0 hr hg hm hk hb (fun σ => passAt tk σ) ha hdb he hpl).imp fun σ H Q ⟨G, env, P, R, rel, hF, hP, hR⟩ => ⟨G, env, _, R, rel, hF, fun ds pd vs G1 H1 g1 rvs =>
    ⟨G1, ds, P, R, g1.gh, rvs, pd.1, pd.2, fun d pd v G2 H2 g2 rv => hP d pd v G2 H2 (g1.trans g2) rv, fun e re => ((hR e re).grow g1).call⟩, hR⟩
end
end Pd
set_option maxRecDepth 100000
set_option maxHeartbeats 4000000
/-! what is walked, comprehensions -/
namespace Pd
open PySem PySem.Spec PyProof.Rows L2 Pre

/-- a list or a tuple, told behind its reading -/
def iAny (K : PySem.W.Frag) (tl : TE) : TI := fun σ H R => tl σ H fun x H1 => ∃ a, x = .ref a ∧ (((∃ xs, SqL K H1 a xs) ∧ R (Itl K a) H1) ∨ ((∃ xs, SqT K H1 a xs) ∧ R (Itt K a) H1))
theorem pi_any {X : Cx} {tg l : Expr} {tl : TE} (hl : PE X l tl) : PI X tg l (iAny X.K tl) := by
  refine ⟨fun pins s σ H R I h => ?_⟩
  refine thn (hl.run pins s σ H _ I h) fun v s1 ⟨x, H1, I1, r1, q1⟩ => ?_
  obtain ⟨a, e, q⟩ := q1
  subst e
  cases r1
  rcases q with ⟨⟨xs, hq⟩, q⟩ | ⟨⟨xs, hq⟩, q⟩
  · obtain ⟨its, rv, p, hz⟩ := I1.list hq
    refine wpAny_pyIter_list p.isList ?_
    refine ⟨s1.heap.objs.size, [s1.heap.objs.size], _, _, H1, rfl, I1.kept (t' := s1.toks) fun b o e => Heap.get?_push_of_some _ e, turn_list a _, ⟨_, Heap.get?_push_size _ rfl, rfl, rfl⟩, fun b hb => ?_, q⟩
    have e : b = s1.heap.objs.size := by simpa using hb
    subst e
    exact I1.fpOk (Nat.le_refl _) (I1.hok.fresh (Nat.le_refl _))
  · obtain ⟨its, rv, p, hz⟩ := I1.tuple hq
    refine wpAny_pyIter_tuple (show s1.heap.IsTuple a its.toArray from p) ?_
    refine ⟨s1.heap.objs.size, [s1.heap.objs.size], _, _, H1, rfl, I1.kept (t' := s1.toks) fun b o e => Heap.get?_push_of_some _ e, turn_tuple a _, ⟨_, Heap.get?_push_size _ rfl, rfl, rfl⟩, fun b hb => ?_, q⟩
    have e : b = s1.heap.objs.size := by simpa using hb
    subst e
    exact I1.fpOk (Nat.le_refl _) (I1.hok.fresh (Nat.le_refl _))
section
variable {B : Bs} {W : WX} {X : Cx} {pos p : Pos} {a b c e tg iter : Expr} {fa fb fc : Fx D} {ga : Fx Bool} {es : List Expr} {fas : Fx (List D)} {K : PySem.W.Frag}

theorem it_list {G : Hp} {q : Addr} {xs : List V} {ds : List D} (h : SqL K G q xs) (r : RepA K G xs ds) : ItOk K (Itl K q) G ds where
  go := fun i H G' e e' hi => by
    have hx : i < xs.length := by rw [r.len]; exact hi
    exact ⟨xs, xs[i], exl e' (exl e h), List.getElem?_eq_getElem hx⟩
  yld := fun i H x H' G' d e e' hd y => by
    obtain ⟨rfl, y⟩ := y
    obtain ⟨v, hv, rv⟩ := r.get hd
    have hx := y xs (exl e' (exl e h))
    rw [hv] at hx
    cases hx
    exact ⟨G', Grow.refl e', rv.ex e⟩
  stop := fun H G' e e' => ⟨xs, exl e' (exl e h), by rw [r.len]; exact Nat.le_refl _⟩
theorem it_tup {G : Hp} {q : Addr} {xs : List V} {ds : List D} (h : SqT K G q xs) (r : RepA K G xs ds) : ItOk K (Itt K q) G ds where
  go := fun i H G' e e' hi => by
    have hx : i < xs.length := by rw [r.len]; exact hi
    exact ⟨xs, xs[i], ext e' (ext e h), List.getElem?_eq_getElem hx⟩
  yld := fun i H x H' G' d e e' hd y => by
    obtain ⟨rfl, y⟩ := y
    obtain ⟨v, hv, rv⟩ := r.get hd
    have hx := y xs (ext e' (ext e h))
    rw [hv] at hx
    cases hx
    exact ⟨G', Grow.refl e', rv.ex e⟩
  stop := fun H G' e e' => ⟨xs, ext e' (ext e h), by rw [r.len]; exact Nat.le_refl _⟩
def wItems (fa : Fx D) : Fx (List D) := fun env P R => fa env (fun d => match d.items with | some ds => P ds | none => False) R
theorem pdi_seq (h : PD B W X iter fa) : PDI B W X tg iter (wItems fa) :=
  (pi_any h).imp fun σ H R ⟨G, env, P, Re, rel, hF, hP, hR⟩ => ⟨G, env, _, Re, rel, hF, fun d pd v G1 H1 g1 rv => by
    cases d <;> first | exact pd.elim | skip
    · obtain ⟨q, xs, rfl, h, r⟩ := rv.lst_inv
      exact ⟨q, rfl, .inl ⟨⟨xs, SqL.of (g1.gh _ _ h)⟩, hP _ pd _ G1 H1 g1 (it_list (SqL.of h) r)⟩⟩
    · obtain ⟨q, xs, rfl, h, r⟩ := rv.tup_inv
      exact ⟨q, rfl, .inr ⟨⟨xs, ext g1.gh h⟩, hP _ pd _ G1 H1 g1 (it_tup h r)⟩⟩
    · cases rv with
      | frz h r => exact ⟨_, rfl, .inl ⟨⟨_, exl g1.gh h⟩, hP _ pd _ G1 H1 g1 (it_list h r)⟩⟩, hR⟩
/-- the signs of a text -/
def signs (z : Str) : List D := z.cps.toList.map fun c => .str ⟨#[c]⟩
def wSigns (fa : Fx D) : Fx (List D) := fun env P R => fa env (fun d => match d with | .str z => P (signs z) | _ => False) R
theorem it_str {G : Hp} {z : Str} : ItOk K (Its z) G (signs z) where
  go := fun i H G' e e' hi => by
    show i < z.cps.size
    simpa [signs] using hi
  yld := fun i H x H' G' d e e' hd y => by
    obtain ⟨rfl, c, hc, rfl⟩ := y
    have hc' : z.cps.toList[i]? = some c := by simpa using hc
    rw [signs, List.getElem?_map, hc'] at hd
    cases hd
    exact ⟨G', Grow.refl e', .str _⟩
  stop := fun H G' e e' => by
    show z.cps.size ≤ (signs z).length
    simp [signs]
theorem pdi_str (h : PD B W X iter fa) : PDI B W X tg iter (wSigns fa) :=
  (pi_str h).imp fun σ H R ⟨G, env, P, Re, rel, hF, hP, hR⟩ => ⟨G, env, _, Re, rel, hF, fun d pd v G1 H1 g1 rv => by
    cases d <;> first | exact pd.elim | skip
    exact ⟨_, rv.str_inv, hP _ pd _ G1 H1 g1 it_str⟩, hR⟩
/-- range -/
def rangeD (lo : Int) (n : Nat) : List D := (List.range n).map fun (i : Nat) => D.int (lo + (i : Int))
theorem it_range {G : Hp} {lo : Int} {n : Nat} : ItOk K (Itr lo n) G (rangeD lo n) where
  go := fun i H G' e e' hi => by
    show i < n
    simpa [rangeD] using hi
  yld := fun i H x H' G' d e e' hd y => by
    obtain ⟨rfl, rfl⟩ := y
    have hi : i < n := by simpa [rangeD] using get_lt hd
    rw [rangeD, List.getElem?_map, List.getElem?_range hi] at hd
    cases hd
    exact ⟨G', Grow.refl e', .int _⟩
  stop := fun H G' e e' => by
    show n ≤ (rangeD lo n).length
    simp [rangeD]
def wRng1 (fas : Fx (List D)) : Fx (List D) := fun env P R => fas env (fun ds => match ds with
  | [.int j] => (-(2 ^ 62) ≤ j ∧ j < 2 ^ 62) ∧ P (rangeD 0 j.toNat)
  | _ => False) R
def wRng2 (fas : Fx (List D)) : Fx (List D) := fun env P R => fas env (fun ds => match ds with
  | [.int i, .int j] => (-(2 ^ 62) ≤ i ∧ i < 2 ^ 62 ∧ -(2 ^ 62) ≤ j ∧ j < 2 ^ 62) ∧ P (rangeD i (j - i).toNat)
  | _ => False) R
theorem pdi_range1 (hg : Gl X "range") (hm : X.mg "range" = none) (ha : PDA B W X [a] fas) (hs : starEach [a] X.env = [(false, eval a X.env)] := by rfl) : PDI B W X tg (.Call (.Name "range" p) [a] [] pos) (wRng1 fas) :=
  (pi_range1 hg hm ha hs).imp fun σ H R ⟨G, env, P, Re, rel, hF, hP, hR⟩ => ⟨G, env, _, Re, rel, hF, fun ds pd vs G1 H1 g1 rvs => by
    split at pd
    · cases rvs with
      | cons r1 r2 =>
        cases r2
        exact ⟨_, by rw [r1.int_inv], pd.1.1, pd.1.2, hP _ pd.2 _ G1 H1 g1 it_range⟩
    · exact pd.elim, hR⟩
theorem pdi_range2 (hg : Gl X "range") (hm : X.mg "range" = none) (ha : PDA B W X [a, b] fas) (hs : starEach [a, b] X.env = [(false, eval a X.env), (false, eval b X.env)] := by rfl) (hs2 : starEach [b] X.env = [(false, eval b X.env)] := by rfl) :
    PDI B W X tg (.Call (.Name "range" p) [a, b] [] pos) (wRng2 fas) :=
  (pi_range2 hg hm ha hs hs2).imp fun σ H R ⟨G, env, P, Re, rel, hF, hP, hR⟩ => ⟨G, env, _, Re, rel, hF, fun ds pd vs G1 H1 g1 rvs => by
    split at pd
    · cases rvs with
      | cons r1 r2 =>
        cases r2 with
        | cons r2 r3 =>
          cases r3
          exact ⟨_, _, by rw [r1.int_inv, r2.int_inv], pd.1, hP _ pd.2 _ G1 H1 g1 it_range⟩
    · exact pd.elim, hR⟩
/-- enumerate -/
def enumD (n : Nat) : List D → List D
  | [] => []
  | d :: ds => .tup [.int n, d] :: enumD (n + 1) ds
theorem enumD_get : ∀ (ds : List D) (n i : Nat) (d : D), (enumD n ds)[i]? = some d → ∃ x, ds[i]? = some x ∧ d = .tup [.int ((n + i : Nat) : Int), x]
  | [], _, _, _, h => by simp [enumD] at h
  | x :: ds, n, 0, d, h => by
    simp only [enumD, List.getElem?_cons_zero, Option.some.injEq] at h
    exact ⟨x, rfl, h.symm⟩
  | x :: ds, n, i + 1, d, h => by
    simp only [enumD, List.getElem?_cons_succ] at h
    obtain ⟨y, h1, h2⟩ := enumD_get ds (n + 1) i d h
    refine ⟨y, by simpa using h1, ?_⟩
    rw [h2, show n + 1 + i = n + (i + 1) from by omega]
theorem enumD_len : ∀ (ds : List D) (n : Nat), (enumD n ds).length = ds.length
  | [], _ => rfl
  | _ :: ds, n => congrArg (· + 1) (enumD_len ds (n + 1))
theorem rep2 {G : Hp} {x y : V} {dx dy : D} {T : Addr} (h : G T = some (.tup [x, y])) (rx : Rep K G x dx) (ry : Rep K G y dy) : Rep K G (.ref T) (.tup [dx, dy]) := .tup (SqT.of h) (.cons rx (.cons ry .nil))
theorem it_enum {k : Bool} {G : Hp} {q : Addr} {xs : List V} {ds : List D} (h : SqB k K G q xs) (r : RepA K G xs ds) : ItOk K (ItEn k K q) G (enumD 0 ds) where
  go := fun i H G' e e' hi => by
    rw [enumD_len] at hi
    have hx : i < xs.length := by rw [r.len]; exact hi
    exact ⟨xs, xs[i], (h.ex e).ex e', List.getElem?_eq_getElem hx⟩
  yld := fun i H x H' G' d e e' hd y => by
    obtain ⟨T, z, rfl, nT, rfl, y⟩ := y
    obtain ⟨x', hx', rfl⟩ := enumD_get ds 0 i d hd
    obtain ⟨v, hv, rv⟩ := r.get hx'
    have hx := y xs ((h.ex e).ex e')
    rw [hv] at hx
    cases hx
    refine ⟨_, Grow.new e' nT, rep2 upd_same ?_ ((rv.ex e).ex (exn (Evl.fresh_back e' nT)))⟩
    rw [Nat.zero_add]
    exact .int _
  stop := fun H G' e e' => ⟨xs, (h.ex e).ex e', by rw [enumD_len]; exact r.len⟩
def wEnum (fas : Fx (List D)) : Fx (List D) := fun env P R => fas env (fun ds => match ds with
  | [d] => match d.items with
    | some ds => P (enumD 0 ds)
    | none => False
  | _ => False) R
theorem seq_of {G H : Hp} {v : V} {d : D} {ds : List D} (e : Ex G H) (rv : Rep K G v d) (h : d.items = some ds) : ∃ k a xs, v = .ref a ∧ SqB k K G a xs ∧ SqB k K H a xs ∧ RepA K G xs ds := by
  obtain ⟨q, ys, rfl, hs, rs⟩ := items_inv rv h
  rcases hs with hs | hs
  · exact ⟨true, q, ys, rfl, hs, exl e hs, rs⟩
  · exact ⟨false, q, ys, rfl, hs, ext e hs, rs⟩
theorem pdi_enum {tpos : Pos} {elts : List Expr} {kk : Nat} (hg : Gl X "enumerate") (hm : X.mg "enumerate" = none) (ha : PDA B W X [a] fas) (hs : starEach [a] X.env = [(false, eval a X.env)] := by rfl) :
    PDI B W X (.Tuple elts kk tpos) (.Call (.Name "enumerate" p) [a] [] pos) (wEnum fas) :=
  (pi_enumM hg hm ha hs).imp fun σ H R ⟨G, env, P, Re, rel, hF, hP, hR⟩ => ⟨G, env, _, Re, rel, hF, fun ds pd vs G1 H1 g1 rvs => by
    split at pd
    · cases rvs with
      | cons r1 r2 =>
        cases r2
        split at pd
        · rename_i ds' hd
          obtain ⟨k, q, ys, rfl, h1, h2, rs⟩ := seq_of g1.gh r1 hd
          exact ⟨k, q, ys, rfl, h2, hP _ pd _ G1 H1 g1 (it_enum h1 rs)⟩
        · exact pd.elim
    · exact pd.elim, hR⟩
/-- zip of two sequences of one length -/
def zipD : List D → List D → List D
  | x :: xs, y :: ys => .tup [x, y] :: zipD xs ys
  | _, _ => []
theorem zipD_get : ∀ (xs ys : List D) (i : Nat) (d : D), (zipD xs ys)[i]? = some d → ∃ x y, xs[i]? = some x ∧ ys[i]? = some y ∧ d = .tup [x, y]
  | [], _, _, _, h => by simp [zipD] at h
  | _ :: _, [], _, _, h => by simp [zipD] at h
  | x :: xs, y :: ys, 0, d, h => by
    simp only [zipD, List.getElem?_cons_zero, Option.some.injEq] at h
    exact ⟨x, y, rfl, rfl, h.symm⟩
  | x :: xs, y :: ys, i + 1, d, h => by
    simp only [zipD, List.getElem?_cons_succ] at h
    obtain ⟨x', y', h1, h2, h3⟩ := zipD_get xs ys i d h
    exact ⟨x', y', by simpa using h1, by simpa using h2, h3⟩
theorem zipD_min : ∀ (xs ys : List D), (zipD xs ys).length = min xs.length ys.length
  | [], ys => by simp [zipD]
  | _ :: _, [] => by simp [zipD]
  | _ :: xs, _ :: ys => by
    show (zipD xs ys).length + 1 = min (xs.length + 1) (ys.length + 1)
    rw [zipD_min xs ys]
    omega
theorem zipD_len (xs ys : List D) (h : xs.length = ys.length) : (zipD xs ys).length = xs.length := by
  rw [zipD_min]
  omega
theorem it_zip {k1 k2 : Bool} {G : Hp} {q1 q2 : Addr} {xs ys : List V} {ds es : List D} (h1 : SqB k1 K G q1 xs) (h2 : SqB k2 K G q2 ys) (r1 : RepA K G xs ds) (r2 : RepA K G ys es) : ItOk K (Itm k1 k2 K q1 q2) G (zipD ds es) where
  go := fun i H G' e e' hi => by
    rw [zipD_min] at hi
    have hx : i < xs.length := by rw [r1.len]; omega
    have hy : i < ys.length := by rw [r2.len]; omega
    exact ⟨xs, ys, xs[i], ys[i], (h1.ex e).ex e', (h2.ex e).ex e', List.getElem?_eq_getElem hx, List.getElem?_eq_getElem hy⟩
  yld := fun i H x H' G' d e e' hd y => by
    obtain ⟨T, z, z', rfl, nT, rfl, y1, y2⟩ := y
    obtain ⟨x', y', hx', hy', rfl⟩ := zipD_get ds es i d hd
    obtain ⟨v, hv, rv⟩ := r1.get hx'
    obtain ⟨u, hu, ru⟩ := r2.get hy'
    have hx := y1 xs ((h1.ex e).ex e')
    have hy := y2 ys ((h2.ex e).ex e')
    rw [hv] at hx
    rw [hu] at hy
    cases hx
    cases hy
    have en := exn (o := HO.tup [z, z']) (Evl.fresh_back e' nT)
    exact ⟨_, Grow.new e' nT, rep2 upd_same ((rv.ex e).ex en) ((ru.ex e).ex en)⟩
  stop := fun H G' e e' => ⟨xs, ys, (h1.ex e).ex e', (h2.ex e).ex e', by rw [zipD_min, r1.len]; omega, by rw [zipD_min, r2.len]; omega, by rw [zipD_min, r1.len, r2.len]; omega⟩
def wZip (fas : Fx (List D)) : Fx (List D) := fun env P R => fas env (fun ds => match ds with
  | [d, e] => match d.items, e.items with
    | some ds, some es => P (zipD ds es)
    | _, _ => False
  | _ => False) R
theorem pdi_zip {tpos : Pos} {elts : List Expr} {kk : Nat} (hg : Gl X "zip") (hm : X.mg "zip" = none) (ha : PDA B W X [a, b] fas) (hs : starEach [a, b] X.env = (false, eval a X.env) :: starEach [b] X.env := by rfl) (hpl : (backTo pos (starEach [b] X.env)).any (·.1) = false := by rfl) :
    PDI B W X (.Tuple elts kk tpos) (.Call (.Name "zip" p) [a, b] [] pos) (wZip fas) :=
  (pi_zipM hg hm ha hs hpl).imp fun σ H R ⟨G, env, P, Re, rel, hF, hP, hR⟩ => ⟨G, env, _, Re, rel, hF, fun ds pd vs G1 H1 g1 rvs => by
    split at pd
    · cases rvs with
      | cons r1 r2 =>
        cases r2 with
        | cons r2 r3 =>
          cases r3
          split at pd
          · rename_i ds' es' hd he
            obtain ⟨k, q, ys, rfl, h1, h2, rs⟩ := seq_of g1.gh r1 hd
            obtain ⟨k', q', ys', rfl, h1', h2', rs'⟩ := seq_of g1.gh r2 he
            exact ⟨k, k', q, q', ys, ys', rfl, h2, h2', hP _ pd _ G1 H1 g1 (it_zip h1 h1' rs rs')⟩
          · exact pd.elim
    · exact pd.elim, hR⟩

/-! ### comprehensions -/
def wipeE (env : En) : List Nat → En
  | [] => env
  | v :: vs => (wipeE env vs).set v .no
theorem Rel.wipe {G H : Hp} {σ : L2.St} {env : En} (rel : Rel K B G σ H env) : ∀ vs : List Nat, Rel K B G (L2.wipe σ vs) H (wipeE env vs)
  | [] => rel
  | v :: vs => (rel.wipe vs).setno v none
def tgc (K : PySem.W.Frag) (B : Bs) (vs : List Nat) (s : Tg) : TG := fun v σ H Q => ∃ G env d env', Rel K B G σ H env ∧ Rep K G v d ∧ s d env = some env' ∧ ∀ σ', L2.wipe σ' vs = L2.wipe σ vs → Rel K B G σ' H env' → Q σ' H
def PGc (B : Bs) (X : Cx) (vs : List Nat) (tg : Expr) (s : Tg) : Prop := PG X tg (tgc X.K B vs s)
def tgcs (K : PySem.W.Frag) (B : Bs) (vs : List Nat) (s : Tgs) : TGs := fun xs σ H Q => ∃ G env ds env', Rel K B G σ H env ∧ RepA K G xs ds ∧ s ds env = some env' ∧ ∀ σ', L2.wipe σ' vs = L2.wipe σ vs → Rel K B G σ' H env' → Q σ' H
def PGcs (B : Bs) (X : Cx) (vs : List Nat) (tg : List Expr) (s : Tgs) : Prop := PGs X tg (tgcs X.K B vs s)
theorem wipe_set {σ : L2.St} {i : Nat} {o : Option V} : ∀ {vs : List Nat}, i ∈ vs → L2.wipe (σ.set i o) vs = L2.wipe σ vs
  | v :: vs, h => by
    by_cases e : i ∈ vs
    · show (L2.wipe (σ.set i o) vs).set v none = (L2.wipe σ vs).set v none
      rw [wipe_set e]
    · have ei : i = v := by
        rcases List.mem_cons.mp h with h | h
        · exact h
        · exact (e h).elim
      subst ei
      have key : ∀ us : List Nat, i ∉ us → L2.wipe (σ.set i o) us = (L2.wipe σ us).set i o := by
        intro us
        induction us with
        | nil => intro _; rfl
        | cons u us ih =>
          intro hu
          rw [List.mem_cons, not_or] at hu
          show (L2.wipe (σ.set i o) us).set u none = ((L2.wipe σ us).set u none).set i o
          rw [ih hu.2, List.set_comm _ _ hu.1]
      show (L2.wipe (σ.set i o) vs).set i none = (L2.wipe σ vs).set i none
      rw [key vs e, List.set_set]
theorem wipe_in {σ : L2.St} {i : Nat} : ∀ {vs : List Nat}, i ∈ vs → (L2.wipe σ vs)[i]? = σ[i]?.map fun _ => none
  | v :: vs, h => by
    show ((L2.wipe σ vs).set v none)[i]? = _
    by_cases e : v = i
    · subst e
      rw [List.getElem?_set]
      simp only [if_true]
      by_cases hl : v < σ.length
      · rw [if_pos (by rw [L2.wipe_length]; exact hl), List.getElem?_eq_getElem hl]
        rfl
      · rw [if_neg (by rw [L2.wipe_length]; exact hl), List.getElem?_eq_none (by omega)]
        rfl
    · rw [List.getElem?_set_ne e]
      rcases List.mem_cons.mp h with h | h
      · exact (e h.symm).elim
      · exact wipe_in h
theorem wipe_wipe {σ : L2.St} {vs : List Nat} : L2.wipe (L2.wipe σ vs) vs = L2.wipe σ vs := by
  apply List.ext_getElem?
  intro i
  by_cases h : i ∈ vs
  · rw [wipe_in h, wipe_in h]
    cases σ[i]? <;> rfl
  · rw [L2.wipe_out h]
theorem pgc_name {vs : List Nat} {i : Nat} {x : Str} (hN : X.N.Nodup) (hi : X.N[i]? = some x) (hx : Loc X.env.scope x) (hv : i ∈ vs := by decide) (hf : X.fn x = true ∨ X.env.scope.names.lookup x = some .local := by first | exact .inl rfl | exact .inr rfl | assumption) : PGc B X vs (.Name x pos) (sName i) :=
  (pg_name hN hi hx hf).imp fun v σ H Q ⟨G, env, d, env', rel, r, e, k⟩ => by
    cases e
    exact k _ (wipe_set hv) (rel.setv r i)
theorem pgcs_nil {vs : List Nat} : PGcs B X vs [] sNil := pgs_nil.imp fun xs σ H Q ⟨G, env, ds, env', rel, r, e, k⟩ => by
  cases r <;> cases e
  exact ⟨rfl, k _ rfl rel⟩
theorem pgcs_cons {vs : List Nat} {es : List Expr} {s : Tg} {t : Tgs} (h1 : PGc B X vs e s) (h2 : PGcs B X vs es t) (hs : (assignEach (e :: es) X.env).map (·.2) = assign e X.env :: (assignEach es X.env).map (·.2) := by rfl) : PGcs B X vs (e :: es) (sCons s t) :=
  (pgs_cons h1 h2 hs).imp fun xs σ H Q ⟨G, env, ds, env', rel, r, e, k⟩ => by
    cases r with
    | nil => cases e
    | cons rv rs =>
      simp only [sCons] at e
      split at e
      · rename_i env1 e1
        exact ⟨_, _, rfl, G, env, _, env1, rel, rv, e1, fun σ1 w1 rel1 => ⟨G, env1, _, env', rel1, rs, e, fun σ2 w2 rel2 => k σ2 (w2.trans w1) rel2⟩⟩
      · cases e
theorem pgc_tup {vs : List Nat} {es : List Expr} {k : Nat} {t : Tgs} {n : Nat} (hc : X.calm = true) (h : PGcs B X vs es t) (hn : (assignEach es X.env).length = n := by rfl) (hst : (assignEach es X.env).findIdx? (·.1) = none := by rfl) : PGc B X vs (.Tuple es k pos) (sTup n t) :=
  (pg_tup hc h hn hst).imp fun v σ H Q ⟨G, env, d, env', rel, r, e, k⟩ => by
    cases d <;> first | (cases e; done) | skip
    simp only [sTup] at e
    split at e
    · rename_i hl
      obtain ⟨a, xs, rfl, hs, rs⟩ := r.tup_inv
      exact ⟨a, xs, rfl, ext rel.gh hs, by rw [rs.len]; exact hl, G, env, _, env', rel, rs, e, k⟩
    · cases e
def W0 : WX := fun _ _ _ _ => False
def PQs (B : Bs) (W : WX) (X : Cx) (ifs : List Expr) (F : Fx Bool) : Prop := PTs X ifs (tQ X.K B W F)
def wYes : Fx Bool := fun _ P _ => P true
theorem _root_.L2.PTs.imp {X : Cx} {e : List Expr} {t t' : TT} (h : PTs X e t) (k : ∀ σ H Q, t' σ H Q → t σ H Q) : PTs X e t' := ⟨fun pins s σ H Q I q => h.run pins s σ H Q I (k σ H Q q)⟩
theorem pqs_nil : PQs B W X [] wYes := pts_nil.imp fun σ H Q ⟨G, env, P, R, rel, hF, hP, hR⟩ => hP _ hF G H (Grow.refl rel.gh)
theorem pqs_one (h : PQ B W X c ga) : PQs B W X [c] ga := pts_one h
def wLc (vs : List Nat) (s : Tg) (gt : Fx Bool) (fe : Fx D) : List D → List D → Fx (List D)
  | [], acc, _, P, _ => P acc
  | d :: ds, acc, env, P, R => match s d (wipeE env vs) with
    | some e1 => gt e1 (fun b => if b = true then fe e1 (fun y => acc.length < sizeLine ∧ wLc vs s gt fe ds (acc ++ [y]) env P R) (fun _ => False) else wLc vs s gt fe ds acc env P R) (fun _ => False)
    | none => False
def wComp (vs : List Nat) (fi : Fx (List D)) (s : Tg) (gt : Fx Bool) (fe : Fx D) : Fx (List D) := fun env P R => fi env (fun ds => wLc vs s gt fe ds [] env P R) R
/-- the reading of a comprehension -/
theorem lc_ok {fi : Fx (List D)} {s : Tg} {gt : Fx Bool} {fe : Fx D} {vs : List Nat} {σ : L2.St} {H : Hp} {Q : VK} (h : tL K B W (wComp vs fi s gt fe) σ H Q) : tLc (tI K B W fi) (tgc K B vs s) (tQ K B W0 gt) (tP K B W0 fe) vs σ H Q := by
  obtain ⟨G, env, P, R, rel, hF, hP, hR⟩ := h
  refine ⟨G, env, _, R, rel, hF, fun ds pds J G1 H1 g1 it Dl nD => ?_, hR⟩
  refine ⟨fun i m H' => m = ds.length - i ∧ i ≤ ds.length ∧ ∃ G' ys acc, Grow G1 H1 G' H' ∧ G' Dl = none ∧ H' Dl = some (.lst ys) ∧ RepA K G' ys acc ∧ wLc vs s gt fe (ds.drop i) acc env P R,
    ⟨ds.length, rfl, Nat.zero_le _, G1, [], [], Grow.own g1.gh nD, Evl.fresh_back g1.gh nD, upd_same, .nil, pds⟩, ?_⟩
  rintro i m H' ⟨rfl, hi, G', ys, acc, gr, nG, hD, ra, hw⟩
  have rel1 := rel.grow g1
  by_cases hlt : i < ds.length
  · refine .inr ⟨it.go i H' G' gr.g gr.gh hlt, fun H' => ∃ G' ys acc, Grow G1 H1 G' H' ∧ G' Dl = none ∧ H' Dl = some (.lst ys) ∧ RepA K G' ys acc ∧ wLc vs s gt fe (ds.drop (i + 1)) acc env P R,
      fun H2 q => ⟨ds.length - (i + 1), by omega, rfl, hlt, q⟩, fun x H2 y => ?_⟩
    obtain ⟨G2, g2, rx⟩ := it.yld i H' x H2 G' ds[i] gr.g gr.gh (List.getElem?_eq_getElem hlt) y
    rw [List.drop_eq_getElem_cons hlt] at hw
    simp only [wLc] at hw
    split at hw
    · rename_i e1 he
      have gr2 := gr.trans g2
      have stay : ∀ {G3 H3 : Hp}, Grow G2 H2 G3 H3 → G3 Dl = none ∧ H3 Dl = some (.lst ys) := fun {G3 H3} g3 => by
        have h2 := g2.h _ _ hD
        exact ⟨(g3.nw _ (by rw [h2]; simp)).trans ((g2.nw _ (by rw [hD]; simp)).trans nG), g3.h _ _ h2⟩
      refine ⟨G2, _, _, e1, (rel1.grow gr2).wipe vs, rx, he, fun σ3 w3 rel3 => ⟨w3.trans (by rw [wipe_wipe]), ?_⟩⟩
      refine ⟨G2, e1, _, _, rel3, hw, fun b pb G3 H3 g3 => ?_, fun _ z => z.elim⟩
      cases b with
      | false =>
        obtain ⟨n3, h3⟩ := stay g3
        exact ⟨G3, ys, acc, gr2.trans g3, n3, h3, ra.ex (g2.trans g3).g, pb⟩
      | true =>
        rw [if_pos rfl]
        refine ⟨G3, e1, _, _, rel3.grow g3, pb, fun dy py v G4 H4 g4 rv => ?_, fun _ z => z.elim⟩
        obtain ⟨n4, h4⟩ := stay (g3.trans g4)
        have gr4 := gr2.trans (g3.trans g4)
        have ra4 := ra.ex ((g2.trans g3).trans g4).g
        refine ⟨ys, h4, by rw [ra.len]; exact py.1, G4, ys ++ [v], acc ++ [dy], ⟨gr4.g, gr4.h.mut nD, gr4.gh.mut n4, gr4.nw⟩, n4, upd_same, ra4.app (.one rv), py.2⟩
    · exact hw.elim
  · have ei : i = ds.length := by omega
    subst ei
    rw [List.drop_length] at hw
    exact .inl ⟨it.stop H' G' gr.g gr.gh, hP _ hw Dl ys G' H' (g1.trans gr) (Evl.fresh_back g1.h nD) nG hD ra⟩
end
end Pd
set_option maxRecDepth 100000
set_option maxHeartbeats 4000000
/-! built-ins -/
namespace Pd
open PySem PySem.Spec PyProof.Rows L2 Pre
section
variable {B : Bs} {W : WX} {X : Cx} {pos p : Pos} {a b c e tg iter : Expr} {fa fb fc : Fx D} {ga : Fx Bool} {es : List Expr} {fas : Fx (List D)} {K : PySem.W.Frag}

/-! ### comprehensions, as rules -/
theorem pl_lc {elt : Expr} {ifs : List Expr} {scope : Scope} {own : List (Str × Nat)} {fi : Fx (List D)} {s : Tg} {gt : Fx Bool} {fe : Fx D} (hc : X.calm = true) (hN : X.N.Nodup) (hi : PDI B W X tg iter fi) (ok : BlkOk X.N X.env.scope scope own)
    (hg : ∀ (s' : Shared) (H : Hp) (C : Addr) (cl : List (Str × Addr)) (fp : List Addr), PGc B (X.blk s' H scope (compEnvC scope cl C X.env) fp) (own.map (·.2)) tg s)
    (ht : ∀ (s' : Shared) (H : Hp) (C : Addr) (cl : List (Str × Addr)) (fp : List Addr), PQs B W0 (X.blk s' H scope (compEnvC scope cl C X.env) fp) ifs gt)
    (he : ∀ (s' : Shared) (H : Hp) (C : Addr) (cl : List (Str × Addr)) (fp : List Addr), PD B W0 (X.blk s' H scope (compEnvC scope cl C X.env) fp) elt fe) (hs : ∀ x, foldedSetIterable iter X.env x = pure x := by intro _; rfl) :
    PL B W X (.ListComp elt [⟨tg, iter, ifs, 0⟩] scope pos) (wComp (own.map (·.2)) fi s gt fe) := (pe_lc (g := tgc X.K B (own.map fun q : Str × Nat => q.2) s) (tt := tQ X.K B W0 gt) (te := tP X.K B W0 fe) hc hN hi ok hg ht he hs).imp fun _ _ _ q => lc_ok q
theorem pds_setLc {i : Nat} {y : Str} {py : Pos} {elt : Expr} {ifs : List Expr} {scope : Scope} {own : List (Str × Nat)} {spos : Pos} {fi : Fx (List D)} {s : Tg} {gt : Fx Bool} {fe : Fx D} (hc : X.calm = true) (hN : X.N.Nodup) (hy : X.N[i]? = some y) (hyl : X.env.scope.names.lookup y = some .local)
    (hsw : swapsWith (.ListComp elt [⟨tg, iter, ifs, 0⟩] scope pos) (some (.Name y py)) spos.line X.env = pure true) (hi : PDI B W X tg iter fi) (ok : BlkOk X.N X.env.scope scope own)
    (hg : ∀ (s' : Shared) (H : Hp) (C : Addr) (cl : List (Str × Addr)) (fp : List Addr), PGc B (X.blk s' H scope (compEnvC scope cl C X.env) fp) (own.map (·.2)) tg s)
    (ht : ∀ (s' : Shared) (H : Hp) (C : Addr) (cl : List (Str × Addr)) (fp : List Addr), PQs B W0 (X.blk s' H scope (compEnvC scope cl C X.env) fp) ifs gt)
    (he : ∀ (s' : Shared) (H : Hp) (C : Addr) (cl : List (Str × Addr)) (fp : List Addr), PD B W0 (X.blk s' H scope (compEnvC scope cl C X.env) fp) elt fe) (hs : ∀ x, foldedSetIterable iter X.env x = pure x := by intro _; rfl) :
    PDs B W X (.Assign [.Name y py] (.ListComp elt [⟨tg, iter, ifs, 0⟩] scope pos) spos) (wSetL i (wComp (own.map (·.2)) fi s gt fe)) :=
  (ps_setLc (g := tgc X.K B (own.map fun q : Str × Nat => q.2) s) (tt := tQ X.K B W0 gt) (te := tP X.K B W0 fe) hc hN hy hyl hsw hi ok hg ht he hs).imp fun Dn σ H ⟨G, env, P, rel, hF, ok⟩ => lc_ok (B := B) (W := W) (Q := fun x H1 => gName i x σ H1 Dn.nx) ⟨G, env, _, _, rel, hF, fun ds pd p vs G1 H1 g1 n1 n2 h1 rv => ok.nx _ pd _ G1 H1 g1.g (rel.newL g1 n1 n2 h1 rv i), ok.err rel⟩

/-! ### len, abs, int -/
def φLen : List D → (D → Prop) → Prop
  | [.lst ds], P => P (.int ds.length)
  | [.tup ds], P => P (.int ds.length)
  | [.frz ds], P => P (.int ds.length)
  | [.str z], P => z.length ≤ sizeLine ∧ P (.int z.length)
  | _, _ => False
theorem RepA.one_inv {G : Hp} {vs : List V} {d : D} (r : RepA K G vs [d]) : ∃ v, vs = [v] ∧ Rep K G v d := by
  cases r with
  | cons h r => cases r; exact ⟨_, rfl, h⟩
theorem RepA.two_inv {G : Hp} {vs : List V} {d e : D} (r : RepA K G vs [d, e]) : ∃ v u, vs = [v, u] ∧ Rep K G v d ∧ Rep K G u e := by
  cases r with
  | cons h r => obtain ⟨u, rfl, h2⟩ := r.one_inv; exact ⟨_, _, rfl, h, h2⟩
theorem RepA.three_inv {G : Hp} {vs : List V} {d e f : D} (r : RepA K G vs [d, e, f]) : ∃ v u w, vs = [v, u, w] ∧ Rep K G v d ∧ Rep K G u e ∧ Rep K G w f := by
  cases r with
  | cons h r => obtain ⟨u, w, rfl, h2, h3⟩ := r.two_inv; exact ⟨_, _, _, rfl, h, h2, h3⟩
def rLenA (K : PySem.W.Frag) : List V → Hp → VK → Prop := fun xs H Q => ∃ x n, xs = [x] ∧ LenV K x H n ∧ Q (.int n) H
theorem cdLen : CaD K (fun xs H Q => ∃ x n, xs = [x] ∧ LenV K x H n ∧ Q (.int n) H) φLen := fun xs ds G H P Q e r p k => by
  unfold φLen at p
  split at p
  · obtain ⟨v, rfl, h⟩ := r.one_inv
    obtain ⟨q, ys, rfl, hs, rs⟩ := h.lst_inv
    exact ⟨_, _, rfl, .inl ⟨ys, SqL.of (e _ _ hs), rfl⟩, by rw [rs.len]; exact k _ p _ G H (Grow.refl e) (.int _)⟩
  · obtain ⟨v, rfl, h⟩ := r.one_inv
    obtain ⟨q, ys, rfl, hs, rs⟩ := h.tup_inv
    exact ⟨_, _, rfl, .inr ⟨ys, ext e hs, rfl⟩, by rw [rs.len]; exact k _ p _ G H (Grow.refl e) (.int _)⟩
  · obtain ⟨v, rfl, h⟩ := r.one_inv
    cases h with
    | frz hs rs => exact ⟨_, _, rfl, .inl ⟨_, exl e hs, rfl⟩, by rw [rs.len]; exact k _ p _ G H (Grow.refl e) (.int _)⟩
  · obtain ⟨v, rfl, h⟩ := r.one_inv
    cases h
    exact ⟨_, _, rfl, ⟨p.1, rfl⟩, k _ p.2 _ G H (Grow.refl e) (.int _)⟩
  · exact p.elim
def φAbs : List D → (D → Prop) → Prop
  | [.int i], P => P (.int i.natAbs)
  | _, _ => False
theorem cdAbs : CaD K (fun xs H Q => ∃ i, xs = [.int i] ∧ Q (.int (if i < 0 then -i else i)) H) φAbs := fun xs ds G H P Q e r p k => by
  unfold φAbs at p
  split at p
  · obtain ⟨v, rfl, h⟩ := r.one_inv
    cases h
    rename_i i
    refine ⟨_, rfl, ?_⟩
    have : (if i < 0 then -i else i) = (i.natAbs : Int) := by split <;> omega
    rw [this]
    exact k _ p _ G H (Grow.refl e) (.int _)
  · exact p.elim
def φInt : List D → (D → Prop) → Prop
  | [.int i], P => P (.int i)
  | [.bl b], P => P (.int (if b then 1 else 0))
  | _, _ => False
theorem cdInt : CaD K (fun xs H Q => (∃ i, xs = [.int i] ∧ Q (.int i) H) ∨ ∃ k, xs = [.bl k] ∧ Q (.int (if k then 1 else 0)) H) φInt := fun xs ds G H P Q e r p k => by
  unfold φInt at p
  split at p
  · obtain ⟨v, rfl, h⟩ := r.one_inv
    cases h
    exact .inl ⟨_, rfl, k _ p _ G H (Grow.refl e) (.int _)⟩
  · obtain ⟨v, rfl, h⟩ := r.one_inv
    cases h
    exact .inr ⟨_, rfl, k _ p _ G H (Grow.refl e) (.int _)⟩
  · exact p.elim
/-! ### max, min of two; sum, all, any of a list -/
def φMax2 : List D → (D → Prop) → Prop
  | [.int i, .int j], P => P (.int (max i j))
  | _, _ => False
theorem cdMax2 : CaD K (fun xs H Q => ∃ i j, xs = [.int i, .int j] ∧ Q (.int (if j > i then j else i)) H) φMax2 := fun xs ds G H P Q e r p k => by
  unfold φMax2 at p
  split at p
  · obtain ⟨v, u, rfl, h1, h2⟩ := r.two_inv
    cases h1
    cases h2
    rename_i i j
    refine ⟨_, _, rfl, ?_⟩
    have : (if j > i then j else i) = max i j := by rw [Int.max_def]; split <;> split <;> omega
    rw [this]
    exact k _ p _ G H (Grow.refl e) (.int _)
  · exact p.elim
def φMin2 : List D → (D → Prop) → Prop
  | [.int i, .int j], P => P (.int (min i j))
  | _, _ => False
theorem cdMin2 : CaD K (fun xs H Q => ∃ i j, xs = [.int i, .int j] ∧ Q (.int (if j < i then j else i)) H) φMin2 := fun xs ds G H P Q e r p k => by
  unfold φMin2 at p
  split at p
  · obtain ⟨v, u, rfl, h1, h2⟩ := r.two_inv
    cases h1
    cases h2
    rename_i i j
    refine ⟨_, _, rfl, ?_⟩
    have : (if j < i then j else i) = min i j := by rw [Int.min_def]; split <;> split <;> omega
    rw [this]
    exact k _ p _ G H (Grow.refl e) (.int _)
  · exact p.elim
def D.toI : D → Option Int
  | .int i => some i
  | _ => none
def D.toB : D → Option Bool
  | .bl i => some i
  | _ => none
def D.toS : D → Option Str
  | .str i => some i
  | _ => none
def allI : List D → Option (List Int)
  | [] => some []
  | d :: ds => match d.toI, allI ds with
    | some i, some is => some (i :: is)
    | _, _ => none
def allB : List D → Option (List Bool)
  | [] => some []
  | d :: ds => match d.toB, allB ds with
    | some i, some is => some (i :: is)
    | _, _ => none
def allS : List D → Option (List Str)
  | [] => some []
  | d :: ds => match d.toS, allS ds with
    | some i, some is => some (i :: is)
    | _, _ => none
theorem allI_eq : ∀ {ds : List D} {ns : List Int}, allI ds = some ns → ds = ns.map D.int
  | [], ns, h => by cases h; rfl
  | d :: ds, ns, h => by
    simp only [allI] at h
    split at h
    · rename_i i is h1 h2
      cases h
      cases d <;> first | (cases h1; done) | skip
      cases h1
      rw [allI_eq h2]; rfl
    · cases h
theorem allB_eq : ∀ {ds : List D} {ns : List Bool}, allB ds = some ns → ds = ns.map D.bl
  | [], ns, h => by cases h; rfl
  | d :: ds, ns, h => by
    simp only [allB] at h
    split at h
    · rename_i i is h1 h2
      cases h
      cases d <;> first | (cases h1; done) | skip
      cases h1
      rw [allB_eq h2]; rfl
    · cases h
theorem allS_eq : ∀ {ds : List D} {ns : List Str}, allS ds = some ns → ds = ns.map D.str
  | [], ns, h => by cases h; rfl
  | d :: ds, ns, h => by
    simp only [allS] at h
    split at h
    · rename_i i is h1 h2
      cases h
      cases d <;> first | (cases h1; done) | skip
      cases h1
      rw [allS_eq h2]; rfl
    · cases h
theorem allI_map (ns : List Int) : allI (ns.map D.int) = some ns := by
  induction ns with
  | nil => rfl
  | cons n ns ih => simp only [List.map_cons, allI, D.toI, ih]
theorem allB_map (ns : List Bool) : allB (ns.map D.bl) = some ns := by
  induction ns with
  | nil => rfl
  | cons n ns ih => simp only [List.map_cons, allB, D.toB, ih]
theorem allS_map (ns : List Str) : allS (ns.map D.str) = some ns := by
  induction ns with
  | nil => rfl
  | cons n ns ih => simp only [List.map_cons, allS, D.toS, ih]
@[irreducible] def φSum : List D → (D → Prop) → Prop
  | [.lst ds], P => match allI ds with
    | some ns => P (.int ns.sum)
    | none => False
  | _, _ => False
theorem cdSum : CaD K (rSum K) φSum := fun xs ds G H P Q e r p k => by
  unfold φSum at p
  split at p
  · split at p
    · rename_i ns hn
      obtain ⟨v, rfl, h⟩ := r.one_inv
      obtain ⟨q, ys, rfl, hs, rs⟩ := h.lst_inv
      rw [allI_eq hn] at rs
      rw [rs.ints] at hs
      exact ⟨q, ns, rfl, SqL.of (e _ _ hs), k _ p _ G H (Grow.refl e) (.int _)⟩
    · exact p.elim
  · exact p.elim
def φAll (any : Bool) : List D → (D → Prop) → Prop
  | [.lst ds], P => match allB ds with
    | some ns => P (.bl (if any then ns.any id else ns.all id))
    | none => False
  | _, _ => False
theorem cdAll : CaD K (rAll K) (φAll false) := fun xs ds G H P Q e r p k => by
  unfold φAll at p
  split at p
  · split at p
    · rename_i ns hn
      obtain ⟨v, rfl, h⟩ := r.one_inv
      obtain ⟨q, ys, rfl, hs, rs⟩ := h.lst_inv
      rw [allB_eq hn] at rs
      rw [rs.bls] at hs
      exact ⟨q, ns, rfl, SqL.of (e _ _ hs), k _ p _ G H (Grow.refl e) (.bl _)⟩
    · exact p.elim
  · exact p.elim
theorem cdAny : CaD K (rAny K) (φAll true) := fun xs ds G H P Q e r p k => by
  unfold φAll at p
  split at p
  · split at p
    · rename_i ns hn
      obtain ⟨v, rfl, h⟩ := r.one_inv
      obtain ⟨q, ys, rfl, hs, rs⟩ := h.lst_inv
      rw [allB_eq hn] at rs
      rw [rs.bls] at hs
      exact ⟨q, ns, rfl, SqL.of (e _ _ hs), k _ p _ G H (Grow.refl e) (.bl _)⟩
    · exact p.elim
  · exact p.elim
/-! ### tuple(..), list(..) -/
def φTuple : List D → (D → Prop) → Prop
  | [.lst ds], P => P (.tup ds)
  | [.tup ds], P => P (.tup ds)
  | _, _ => False
theorem cdTuple : CaD K (fun xs H Q => ∃ p ys, xs = [.ref p] ∧ ((SqL K H p ys ∧ ∀ l, H l = none → Q (.ref l) (upd H l (.tup ys))) ∨ (SqT K H p ys ∧ Q (.ref p) H))) φTuple := fun xs ds G H P Q e r p k => by
  unfold φTuple at p
  split at p
  · obtain ⟨v, rfl, h⟩ := r.one_inv
    obtain ⟨q, ys, rfl, hs, rs⟩ := h.lst_inv
    exact ⟨q, ys, rfl, .inl ⟨SqL.of (e _ _ hs), fun t nt => k _ p _ _ _ (Grow.new e nt) (.tup (SqT.of upd_same) (rs.ex (exn (Evl.fresh_back e nt))))⟩⟩
  · obtain ⟨v, rfl, h⟩ := r.one_inv
    obtain ⟨q, ys, rfl, hs, rs⟩ := h.tup_inv
    exact ⟨q, ys, rfl, .inr ⟨ext e hs, k _ p _ G H (Grow.refl e) (.tup hs rs)⟩⟩
  · exact p.elim
def φList : List D → (List D → Prop) → Prop
  | [.lst ds], P => P ds
  | [.tup ds], P => P ds
  | _, _ => False
theorem cdList : ClD K (fun xs H Q => ∃ p ys, xs = [.ref p] ∧ (SqL K H p ys ∨ SqT K H p ys) ∧ ∀ l, H l = none → Q (.ref l) (upd H l (.lst ys))) φList := fun xs ds G H P Q e r p k => by
  unfold φList at p
  split at p
  · obtain ⟨v, rfl, h⟩ := r.one_inv
    obtain ⟨q, ys, rfl, hs, rs⟩ := h.lst_inv
    exact ⟨q, ys, rfl, .inl (SqL.of (e _ _ hs)), fun t nt => k _ p _ _ _ _ (Grow.own e nt) nt (Evl.fresh_back e nt) upd_same rs⟩
  · obtain ⟨v, rfl, h⟩ := r.one_inv
    obtain ⟨q, ys, rfl, hs, rs⟩ := h.tup_inv
    exact ⟨q, ys, rfl, .inr (ext e hs), fun t nt => k _ p _ _ _ _ (Grow.own e nt) nt (Evl.fresh_back e nt) upd_same rs⟩
  · exact p.elim

/-! ### order of data -/
def py (d : D) : PyData := (toPy d).getD .none
/-- the data that Python's < compares place by place -/
def ltOk (x y : D) : Prop := ∃ p q, toPy x = some p ∧ toPy y = some q ∧ PySem.W.alike p q = true ∧ p ≠ .none ∧ min p.depth q.depth ≤ 64
def ltD (x y : D) : Bool := PySem.W.dataLt (py x) (py y)
def rLtD (K : PySem.W.Frag) (neg swap : Bool) : R2 := fun x y H Q => ∃ p q, Dp K H x p ∧ Dp K H y q ∧ PySem.W.alike p q = true ∧ p ≠ .none ∧ min p.depth q.depth ≤ 64 ∧ Q (.bl (if neg then !PySem.W.dataLt (if swap then q else p) (if swap then p else q) else PySem.W.dataLt (if swap then q else p) (if swap then p else q))) H
theorem op_ltData (hu : X.A.units + 64 < cLine) : OpR X (compareOp .Lt) (rLtD X.K false false) := by
  intro pins s σ H x y v u Q I rx ry ⟨p, q, h1, h2, h3, h4, h5, k⟩
  obtain ⟨as, r1⟩ := Dp.reads I p x v h1 rx
  obtain ⟨bs, r2⟩ := Dp.reads I q y u h2 ry
  exact PySem.W.lt_data r1 r2 h3 h4 (by omega) ⟨.bl _, H, I, rfl, k⟩
theorem op_gtData (hu : X.A.units + 64 < cLine) : OpR X (compareOp .Gt) (rLtD X.K false true) := by
  intro pins s σ H x y v u Q I rx ry ⟨p, q, h1, h2, h3, h4, h5, k⟩
  obtain ⟨as, r1⟩ := Dp.reads I p x v h1 rx
  obtain ⟨bs, r2⟩ := Dp.reads I q y u h2 ry
  exact PySem.W.gt_data r1 r2 h3 h4 (by omega) ⟨.bl _, H, I, rfl, k⟩
theorem op_leData (hu : X.A.units + 64 < cLine) : OpR X (compareOp .LtE) (rLtD X.K true true) := by
  intro pins s σ H x y v u Q I rx ry ⟨p, q, h1, h2, h3, h4, h5, k⟩
  obtain ⟨as, r1⟩ := Dp.reads I p x v h1 rx
  obtain ⟨bs, r2⟩ := Dp.reads I q y u h2 ry
  exact PySem.W.le_data r1 r2 h3 h4 (by omega) ⟨.bl _, H, I, rfl, k⟩
theorem op_geData (hu : X.A.units + 64 < cLine) : OpR X (compareOp .GtE) (rLtD X.K true false) := by
  intro pins s σ H x y v u Q I rx ry ⟨p, q, h1, h2, h3, h4, h5, k⟩
  obtain ⟨as, r1⟩ := Dp.reads I p x v h1 rx
  obtain ⟨bs, r2⟩ := Dp.reads I q y u h2 ry
  exact PySem.W.ge_data r1 r2 h3 h4 (by omega) ⟨.bl _, H, I, rfl, k⟩
def φLtD (neg swap : Bool) (x y : D) (P : D → Prop) : Prop := ltOk x y ∧ P (.bl (if neg then !ltD (if swap then y else x) (if swap then x else y) else ltD (if swap then y else x) (if swap then x else y)))
theorem odLtD {neg swap : Bool} : OpD K (rLtD K neg swap) (φLtD neg swap) := fun x y dx dy G H P Q e rx ry ⟨⟨p, q, h1, h2, h3, h4, h5⟩, pp⟩ k => by
  refine ⟨p, q, dp_ex e (rx.dp h1), dp_ex e (ry.dp h2), h3, h4, h5, ?_⟩
  have e1 : py dx = p := by unfold py; rw [h1]; rfl
  have e2 : py dy = q := by unfold py; rw [h2]; rfl
  have kk := k _ pp _ G H (Grow.refl e) (.bl _)
  unfold ltD at kk
  cases swap <;> cases neg <;> simpa [e1, e2] using kk

/-! ### sorted -/
def leD (x y : D) : Bool := !ltD y x
def sortOk (ds : List D) : Prop := (∀ d ∈ ds, ∃ p, toPy d = some p ∧ p.depth ≤ 60) ∧ PySem.W.AllAlike (ds.map py) ∧ PySem.W.Sortable (ds.map py)
@[irreducible] def φSorted : List D → (List D → Prop) → Prop
  | [.lst ds], P => sortOk ds ∧ P (ds.mergeSort leD)
  | _, _ => False
theorem each_of {G : Hp} : ∀ {xs : List V} {ds : List D} {us : List Value}, RepA K G xs ds → Vals xs us → ∃ bs : List (V × D), bs.map (·.1) = xs ∧ bs.map (·.2) = ds ∧ PySem.W.EachIs (fun u b => RelV b.1 u ∧ Rep K G b.1 b.2) us bs
  | _, _, _, .nil, .nil => ⟨[], rfl, rfl, .nil⟩
  | _, _, _, .cons h r, .cons rv rr => by
    obtain ⟨bs, h1, h2, h3⟩ := each_of r rr
    exact ⟨(_, _) :: bs, by rw [List.map_cons, h1], by rw [List.map_cons, h2], .cons ⟨rv, h⟩ h3⟩
theorem of_each {G : Hp} : ∀ {us : List Value} {bs : List (V × D)}, PySem.W.EachIs (fun u b => RelV b.1 u ∧ Rep K G b.1 b.2) us bs → Vals (bs.map (·.1)) us ∧ RepA K G (bs.map (·.1)) (bs.map (·.2))
  | _, _, .nil => ⟨.nil, .nil⟩
  | _, _, .cons h r => by
    obtain ⟨h1, h2⟩ := of_each r
    exact ⟨.cons h.1 h1, .cons h.2 h2⟩
theorem leD_eq (a b : V × D) : PySem.W.dataLe false (fun b : V × D => py b.2) a b = leD a.2 b.2 := by
  rw [PySem.W.dataLe_eq]
  rfl
def rSortedD (K : PySem.W.Frag) : List V → Hp → VK → Prop := fun xs H Q => ∃ (a : Addr) (ys : List V) (ds : List D) (G : Hp), xs = [.ref a] ∧ SqL K H a ys ∧ Ex G H ∧ RepA K G ys ds ∧ sortOk ds ∧ ∀ p zs, H p = none → RepA K G zs (ds.mergeSort leD) → Q (.ref p) (upd H p (.lst zs))
theorem cr_sortedD (hu : X.A.units + 64 < cLine) : CallR X (.builtin "sorted") (rSortedD X.K) := by
  intro pins s σ H vs us Q I r h
  obtain ⟨a, ys, ds, G, rfl, hs, eg, ra, ⟨ok1, ok2, ok3⟩, q⟩ := h
  obtain ⟨its, rv, hl, hz⟩ := I.list hs
  rw [Vals.ref1 r]
  obtain ⟨bs, b1, b2, eb⟩ := each_of ra rv
  have hlen : bs.length = ys.length := by rw [← b1, List.length_map]
  have em : bs.map (fun b : V × D => py b.2) = ds.map py := by rw [← b2, List.map_map]; rfl
  refine PySem.W.sorted_data (R := fun u b => RelV b.1 u ∧ Rep X.K G b.1 b.2) (enc := fun b : V × D => py b.2) hl.isList eb ?_ (by rw [em]; exact ok2) (by rw [em]; exact ok3) (by rw [hlen]; exact hz) ?_ fun out h1 h2 => ?_
  · have key : ∀ {us : List Value} {cs : List (V × D)}, PySem.W.EachIs (fun u b => RelV b.1 u ∧ Rep X.K G b.1 b.2) us cs → (∀ b ∈ cs, b.2 ∈ ds) → PySem.W.EachIs (fun v b => ∃ as, Reads s.heap v ((fun b : V × D => py b.2) b) as) us cs := by
      intro us cs h
      induction h with
      | nil => intro _; exact .nil
      | cons h r ih =>
        rename_i u c us cs
        intro hm
        refine .cons ?_ (ih fun b hb => hm b (List.mem_cons_of_mem _ hb))
        obtain ⟨p, hp, _⟩ := ok1 c.2 (hm c List.mem_cons_self)
        obtain ⟨as, ra⟩ := Dp.reads I p c.1 u (dp_ex eg (h.2.dp hp)) h.1
        refine ⟨as, ?_⟩
        show Reads s.heap u (py c.2) as
        unfold py
        rw [hp]
        exact ra
    exact key eb fun b hb => by rw [← b2]; exact List.mem_map_of_mem hb
  · intro b hb
    have hd : b.2 ∈ ds := by rw [← b2]; exact List.mem_map_of_mem hb
    obtain ⟨p, hp, hd'⟩ := ok1 b.2 hd
    show X.A.units + 2 + (py b.2).depth < cLine
    unfold py
    rw [hp]
    show X.A.units + 2 + p.depth < cLine
    omega
  · have hsort : (bs.mergeSort (PySem.W.dataLe false fun b : V × D => py b.2)).map (·.2) = ds.mergeSort leD := by
      rw [← b2]
      exact PySem.W.sort_maps (fun b : V × D => b.2) fun a _ b _ => leD_eq a b
    obtain ⟨v1, v2⟩ := of_each h2
    rw [hsort] at v2
    obtain ⟨ep, he'⟩ := PyProof.Rows.sortedAll_at s.heap its out.toArray
    have hl2 : ((bs.mergeSort (PySem.W.dataLe false fun b : V × D => py b.2)).map (·.1)).length ≤ sizeLine := by
      rw [List.length_map, List.length_mergeSort, hlen]
      exact hz
    exact ⟨.ref _, upd H (s.heap.objs.size + 1) (.lst _), I.laid (t' := s.toks) (fun _ _ => PyProof.Rows.sortedAll_old) (Nat.le_succ _) ⟨hl2, out, ep, v1, he'⟩, rfl, q _ _ (I.hok.fresh (Nat.le_succ _)) v2⟩
theorem cdSorted : ClD K (rSortedD K) φSorted := fun xs ds G H P Q e r p k => by
  unfold φSorted at p
  split at p
  · obtain ⟨v, rfl, h⟩ := r.one_inv
    obtain ⟨q, ys, rfl, hs, rs⟩ := h.lst_inv
    exact ⟨q, ys, _, G, rfl, SqL.of (e _ _ hs), e, rs, p.1, fun t zs nt rz => k _ p.2 _ _ _ _ (Grow.own e nt) nt (Evl.fresh_back e nt) upd_same rz⟩
  · exact p.elim
end
end Pd
set_option maxRecDepth 100000
set_option maxHeartbeats 4000000
/-! isinstance, fields, instances made, errors raised and caught, calls by keywords -/
namespace Pd
open PySem PySem.Spec PyProof.Rows L2 Pre
section
variable {B : Bs} {W : WX} {X : Cx} {pos p : Pos} {a b c e tg iter : Expr} {fa fb fc : Fx D} {ga : Fx Bool} {es : List Expr} {fas : Fx (List D)} {K : PySem.W.Frag}

/-! ### isinstance -/
inductive Kd where
  | int | bool | str | tuple | list | dict
def Kd.name : Kd → String
  | .int => "int" | .bool => "bool" | .str => "str" | .tuple => "tuple" | .list => "list" | .dict => "dict"
inductive Ty where
  | none | bool | int | str | bytes | list | tuple | dict
def Ty.name : Ty → String
  | .none => "NoneType" | .bool => "bool" | .int => "int" | .str => "str" | .bytes => "bytes" | .list => "list" | .tuple => "tuple" | .dict => "dict"
def D.ty : D → Option Ty
  | .non => some .none | .bl _ => some .bool | .int _ => some .int | .str _ => some .str | .byt _ => some .bytes
  | .lst _ => some .list | .tup _ => some .tuple | .dic _ _ => some .dict
  | _ => none
def isTy : Kd → Ty → Bool
  | .int, .int => true | .int, .bool => true
  | .bool, .bool => true
  | .str, .str => true
  | .tuple, .tuple => true
  | .list, .list => true
  | .dict, .dict => true
  | _, _ => false
def isKd (k : Kd) (d : D) : Bool := match d.ty with
  | some t => isTy k t
  | none => false
theorem kit_ty' (k : Kd) (t : Ty) : kitB t.name k.name = some (isTy k t) := by cases k <;> cases t <;> decide +kernel
theorem kit_kd {k : Kd} {d : D} {t : Ty} (h : d.ty = some t) : kitB t.name k.name = some (isKd k d) := by
  unfold isKd
  rw [h]
  exact kit_ty' k t
theorem ty_of {G : Hp} {x : V} {d : D} {t : Ty} (r : Rep K G x d) (h : d.ty = some t) : TyX K G x (.type t.name) := by
  cases r <;> first | (cases h; done) | skip
  · cases h; exact .base .non
  · cases h; exact .base (.bl _)
  · cases h; exact .base (.int _)
  · cases h; exact .base (.str _)
  · cases h; exact .byt _
  · cases h; exact .base (.lst ‹_›)
  · cases h
    rename_i hs _
    rcases hs with (hs | ⟨o, hs⟩) | ⟨o, its, n, h1, h2, _⟩
    · exact .base (.tup hs)
    · exact .fTuple hs
    · exact .kTuple h1 h2
  · cases h; exact .base (.dK ‹_›)
theorem _root_.L2.TyX.ex {K : PySem.W.Frag} {G H : Hp} {x : V} {t : Value} (h : TyX K G x t) (e : Ex G H) : TyX K H x t := by
  cases h with
  | base h =>
    cases h with
    | non => exact .base .non
    | bl x => exact .base (.bl x)
    | int x => exact .base (.int x)
    | str x => exact .base (.str x)
    | flt x => exact .base (.flt x)
    | lst h => exact .base (.lst (e _ _ h))
    | frz h => exact .base (.frz (e _ _ h))
    | tup h => exact .base (.tup (e _ _ h))
    | dK h => exact .base (.dK (e _ _ h))
    | dT h => exact .base (.dT (e _ _ h))
    | ins h a b c d f => exact .base (.ins (e _ _ h) a b c d f)
  | byt b => exact .byt b
  | set h => exact .set (e _ _ h)
  | kList a b => exact .kList a b
  | kTuple a b => exact .kTuple a b
  | kDict a b => exact .kDict a b
  | fTuple h => exact .fTuple (e _ _ h)
  | fDict h => exact .fDict (e _ _ h)
/-- what is known of an own class -/
structure OwnC (K : PySem.W.Frag) (C : Addr) : Prop where
  cl : Cls K C
  ha : PySem.W.findIn K (.ref C) "__class__" = some (some (.builtin "object.__class__"))
  hn : PySem.W.specialIn K (.builtin "object.__class__") "__get__" = some (some (.builtin "getset_descriptor.__get__"))
  htk : PySem.W.takesIn K (.builtin "object.__class__") = some true
  hm : PySem.W.mroIn K C (.type "object") = some true
/-- isinstance: cs: the own classes that are known -/
@[irreducible] def φIsi (k : Kd) (cs : List Addr) : D → (D → Prop) → Prop := fun d P => match d with
  | .obj C _ _ => C ∈ cs ∧ P (.bl false)
  | .hid _ => False
  | .frz _ => False
  | .raw _ => False
  | d => P (.bl (isKd k d))
def wIsi (k : Kd) (cs : List Addr) (fa : Fx D) : Fx D := fun env P R => fa env (fun d => φIsi k cs d P) R
theorem pd_isi {k : Kd} {cs : List Addr} {x : Str} (hcs : ∀ C ∈ cs, OwnC X.K C ∧ ∀ k : Kd, PySem.W.kitOne X.K (.ref C) (.type k.name) = some false) (hg : Gl X x) (hm : X.mg x = none) (hv : bootBuiltins x = some (.builtin "isinstance")) (ha : PD B W X a fa) (hk : PE X b (tC (.ty k.name)))
    (hn : x ≠ "__name__" := by decide) (hdb : (x == ("__debug__" : Str)) = false := by decide) (s1 : starEach [a, b] X.env = (false, eval a X.env) :: starEach [b] X.env := by rfl) (s2 : starEach [b] X.env = (false, eval b X.env) :: starEach [] X.env := by rfl)
    (hpl : (backTo pos (starEach [b] X.env)).any (·.1) = false := by rfl) : PD B W X (.Call (.Name x p) [a, b] [] pos) (wIsi k cs fa) :=
  (pe_callB call_isi hg hm hv (pa_cons ha (pa_cons hk pa_nil s2) s1) hn hdb s1 hpl).imp fun σ H Q ⟨G, env, P, R, rel, hF, hP, hR⟩ => ⟨G, env, _, R, rel, hF, fun d pd v G1 H1 g1 rv => by
    unfold φIsi at pd
    show rIsi X.K [v, .ty k.name] H1 Q
    have go : ∀ t, d.ty = some t → P (.bl (isKd k d)) → rIsi X.K [v, .ty k.name] H1 Q := fun t ht pp => ⟨v, .ty k.name, .type t.name, .type k.name, _, rfl, .ty _, (ty_of rv ht).ex g1.gh, kit_ty (kit_kd ht), hP _ pp _ G1 H1 g1 (.bl _)⟩
    cases d with
    | obj C ns ds =>
      obtain ⟨hC, pp⟩ := pd
      obtain ⟨o, f⟩ := hcs C hC
      cases rv with
      | obj h e r => exact ⟨_, .ty k.name, .ref C, .type k.name, false, rfl, .ty _, .base (.ins (g1.gh _ _ h) o.cl o.ha o.hn o.htk o.hm), f k, hP _ pp _ G1 H1 g1 (.bl _)⟩
    | hid _ => exact pd.elim
    | frz _ => exact pd.elim
    | raw _ => exact pd.elim
    | non => exact go _ rfl pd
    | bl _ => exact go _ rfl pd
    | int _ => exact go _ rfl pd
    | str _ => exact go _ rfl pd
    | byt _ => exact go _ rfl pd
    | lst _ => exact go _ rfl pd
    | tup _ => exact go _ rfl pd
    | dic _ _ => exact go _ rfl pd, hR⟩

/-! ### fields -/
def nlook : List Str → List D → Str → Option D
  | n :: ns, d :: ds, f => if f = n then some d else nlook ns ds f
  | _, _, _ => none
theorem nlook_of {G : Hp} : ∀ {fs : List (Str × V)} {ns : List Str} {ds : List D} {f : Str} {d : D}, fs.map (·.1) = ns → RepA K G (fs.map (·.2)) ds → nlook ns ds f = some d → ∃ v, fs.lookup f = some v ∧ Rep K G v d
  | [], ns, ds, f, d, e, r, h => by
    cases e
    cases r
    cases h
  | (n, v) :: fs, ns, ds, f, d, e, r, h => by
    cases e
    cases r with
    | cons hv hr =>
      simp only [List.map_cons, nlook] at h
      by_cases q : f = n
      · subst q
        rw [if_pos rfl] at h
        cases h
        exact ⟨v, by rw [List.lookup_cons, beq_self_eq_true], hv⟩
      · rw [if_neg q] at h
        obtain ⟨u, h1, h2⟩ := nlook_of rfl hr h
        exact ⟨u, by rw [List.lookup_cons, beq_eq_false_iff_ne.mpr q]; exact h1, h2⟩
def wFld (C : Addr) (f : Str) (fa : Fx D) : Fx D := fun env P R => fa env (fun d => match d with
  | .obj C' ns ds => C' = C ∧ match nlook ns ds f with
    | some d => P d
    | none => False
  | _ => False) R
theorem pd_fld {C : Addr} {f : Str} (hc : Cls X.K C) (hn : NoAttr X.K C f) (ha : PD B W X a fa) (hb : attributeBase a f X.env (eval a X.env) = eval a X.env := by rfl) : PD B W X (.Attribute a f pos) (wFld C f fa) :=
  (pe_fld ha hb).imp fun σ H Q ⟨G, env, P, R, rel, hF, hP, hR⟩ => ⟨G, env, _, R, rel, hF, fun d pd v G1 H1 g1 rv => by
    cases d <;> first | exact pd.elim | skip
    obtain ⟨rfl, pd⟩ := pd
    split at pd
    · rename_i d' hd
      cases rv with
      | obj h e r =>
        obtain ⟨u, h1, h2⟩ := nlook_of e r hd
        exact ⟨_, _, _, _, u, rfl, g1.gh _ _ h, hc, hn, h1, hP _ pd _ G1 H1 g1 h2⟩
    · exact pd.elim, hR⟩
/-- self.f = e, self one's own -/
def putN (ns : List Str) (ds : List D) (f : Str) (d : D) : List Str × List D := match ns, ds with
  | n :: ns, x :: ds => if n = f then (n :: ns, d :: ds) else let r := putN ns ds f d; (n :: r.1, x :: r.2)
  | _, _ => ([f], [d])
theorem putN_of {G : Hp} {f : Str} {v : V} {d : D} (rv : Rep K G v d) : ∀ {fs : List (Str × V)} {ds : List D}, RepA K G (fs.map (·.2)) ds → (putF f v fs).map (·.1) = (putN (fs.map (·.1)) ds f d).1 ∧ RepA K G ((putF f v fs).map (·.2)) (putN (fs.map (·.1)) ds f d).2
  | [], ds, r => by
    cases r
    exact ⟨rfl, .one rv⟩
  | (n, x) :: fs, ds, r => by
    cases r with
    | cons h r =>
      obtain ⟨h1, h2⟩ := putN_of rv r
      by_cases q : n = f
      · simp only [putF, putN, List.map_cons, if_pos q]
        exact ⟨trivial, .cons rv r⟩
      · simp only [putF, putN, List.map_cons, if_neg q]
        exact ⟨by rw [h1], .cons h h2⟩
theorem putF_len (f : Str) (v : V) : ∀ fs : List (Str × V), (putF f v fs).length ≤ fs.length + 1
  | [] => Nat.le_refl _
  | (n, x) :: fs => by
    simp only [putF]
    split
    · simp
    · simpa using putF_len f v fs
def wStF (i : Nat) (f : Str) (fa : Fx D) : Fs := fun env P => match env[i]? with
  | some (.i q C ns ds) => fa env (fun d => ns.length < 1000 ∧ P (.nx (env.set i (.i q C (putN ns ds f d).1 (putN ns ds f d).2)))) (fun e => P (.er env e))
  | _ => False
theorem pds_stf {i : Nat} {C0 : Addr} {f : Str} {st : Stmt} (hc : Cls X.K C0) (hn : NoAttr X.K C0 f) (h : PS X st (sFld X.K (tVar i) (tP X.K B W fa) f)) : PDs B W X st (fun env P => (∃ q ns ds, env[i]? = some (.i q C0 ns ds)) ∧ wStF i f fa env P) :=
  h.imp fun Dn σ H ⟨G, env, P, rel, ⟨⟨q0, ns, ds, he⟩, hF⟩, ok⟩ => by
    unfold wStF at hF
    rw [he] at hF
    exact ⟨G, env, _, _, rel, hF, fun d pd v G1 H1 g1 rv => by
      have rel1 := rel.grow g1
      obtain ⟨q, s1, s2, _, eq, dx, fs, s3, s4, s5⟩ := rel1.own he rfl
      subst s4
      obtain ⟨e1, e2⟩ := putN_of (f := f) rv s5
      refine ⟨.ref q, s1, q, C0, dx, fs, rfl, s3, hc, hn, by simpa using pd.1, ok.nx _ pd.2 _ G1 _ g1.g (rel1.mut he rfl s1 (s' := .i q0 C0 _ _) ⟨eq, dx, _, upd_same, e1, e2⟩)⟩, ok.err rel⟩

/-! ### an instance made by its __init__ -/
abbrev Fm := List D → (List Str × List D → Prop) → (Err → Prop) → Prop
/-- __init__'s promise: self is new, and what it holds at the end -/
def spMk (K : PySem.W.Frag) (C : Addr) (n : Nat) (F : Fm) : Sp := fun vs H Q E => ∃ (x dx : Addr) (us : List V) (H0 G : Hp) (ds : List D) (P : List Str × List D → Prop) (R : Err → Prop), vs = .ref x :: us ∧ H0 x = none ∧ H0 dx = none ∧ dx ≠ x ∧ H = upd (upd H0 dx (.own x)) x (.ins C dx []) ∧ Ex G H0 ∧ RepA K G us ds ∧ ds.length = n ∧ F ds P R ∧
  (∀ y, P y → ∀ (G' H' : Hp) dx' fs, Grow G H0 G' H' → G' x = none → H' x = some (.ins C dx' fs) → fs.map (·.1) = y.1 → RepA K G' (fs.map (·.2)) y.2 → Q .non H') ∧ ∀ e, R e → ErrTo K G H0 (fun c d _ H => E c d H) [] e
theorem spMk_len {C : Addr} {n : Nat} {F : Fm} (vs : List V) (H : Hp) (Q : VK) (E : XK) (h : spMk K C n F vs H Q E) : vs.length = n + 1 := by
  obtain ⟨x, dx, us, H0, G, ds, P, R, rfl, _, _, _, _, _, r, hl, _⟩ := h
  rw [List.length_cons, r.len, hl]
def finM (x C : Addr) (P : List Str × List D → Prop) (R : Err → Prop) : Out → Prop
  | .nx env => match (env[0]? : Option Sl) with
    | some (Sl.i x' C' ns ds) => x' = x ∧ C' = C ∧ P (ns, ds)
    | _ => False
  | .er _ e => R e
  | _ => False
def startM (x C : Addr) (n : Nat) (ds : List D) : En := .i x C [] [] :: (ds.map Sl.v ++ List.replicate (n - (ds.length + 1)) Sl.no)
theorem Rel.startM {G H0 : Hp} {C x dx : Addr} {us : List V} {ds : List D} (e : Ex G H0) (n1 : H0 x = none) (n2 : H0 dx = none) (ne : dx ≠ x) (r : RepA K G us ds) (n : Nat) :
    Rel K ⟨G, H0⟩ G (some (.ref x) :: (us.map some ++ List.replicate n none)) (upd (upd H0 dx (.own x)) x (.ins C dx [])) (.i x C [] [] :: (ds.map Sl.v ++ List.replicate n Sl.no)) := by
  have R0 := Rel.start (K := K) e r n
  have e1 : Ex H0 (upd (upd H0 dx (.own x)) x (.ins C dx [])) := (exn n2).trans (exn (by rw [upd_ne (Ne.symm ne)]; exact n1))
  refine ⟨ex0, e1, e.trans e1, fun _ _ => rfl, by simp [R0.len], fun i o s h1 h2 => ?_, fun i j q si sj h1 h2 w1 w2 k1 k2 => ?_⟩
  · cases i with
    | zero =>
      cases h1
      cases h2
      exact ⟨x, rfl, Evl.fresh_back e n1, n1, rfl, dx, [], upd_same, rfl, .nil⟩
    | succ i =>
      have h1' : (us.map some ++ List.replicate n none)[i]? = some o := h1
      have h2' : (ds.map Sl.v ++ List.replicate n Sl.no)[i]? = some s := h2
      have q := R0.sl i o s h1' h2'
      cases s with
      | no => trivial
      | v d => exact q
      | l ds => obtain ⟨p, _, _, z, vs, hv, _⟩ := q; exact nomatch (show H0 p = none from z).symm.trans hv
      | k ks ds => obtain ⟨p, _, _, z, vs, hv, _⟩ := q; exact nomatch (show H0 p = none from z).symm.trans hv
      | i q C ns ds => obtain ⟨p, _, _, z, _, dx, vs, hv, _⟩ := q; exact nomatch (show H0 p = none from z).symm.trans hv
  · have key : ∀ {i : Nat} {s : Sl}, (ds.map Sl.v ++ List.replicate n Sl.no)[i]? = some s → s.own = true → False := fun {i s} h w => by
      have m := List.mem_of_getElem? h
      rcases List.mem_append.mp m with m | m
      · obtain ⟨d, _, rfl⟩ := List.mem_map.mp m
        cases w
      · obtain rfl := List.eq_of_mem_replicate m
        cases w
    cases i with
    | zero =>
      cases j with
      | zero => rfl
      | succ j => exact (key (show (ds.map Sl.v ++ List.replicate n Sl.no)[j]? = some sj from h2) w2).elim
    | succ i => exact (key (show (ds.map Sl.v ++ List.replicate n Sl.no)[i]? = some si from h1) w1).elim
theorem okM {P : Program} {w : World} {mg : Str → Option Value} {base : Heap} {x qual : Str} {st : Stmt} {f C : Addr} {fd : FuncData} {N ps : List Str} {k n : Nat} {F : Fm} (Fn : Fun K x qual st f fd) (S : FnScope N ps (defScope st)) (hn : ps.length = n + 1) (hN : n + 1 ≤ N.length)
    (hbody : ∀ (cdv : Value) (A : Around) (outer : List Env) (s : Shared) (H : Hp) (E : XK) (B : Bs), Room k (A.deeper (envOfC qual (defScope st) s.heap.objs.size f cdv)) →
      ∃ Fb, PDss B (fun c d _ H => E c d H) (cxOf (L2.CX P w) P w K mg base N qual (defScope st) f cdv A outer s H E) (defBody st) Fb ∧ ∀ x ds Q R, ds.length = n → F ds Q R → Fb (startM x C N.length ds) (finM x C Q R)) :
    FnOk P w K mg base (L2.CX P w) (k + 1) f fd ps (spMk K C n F) := by
  refine Fn.okX S (fun vs H Q E h => by rw [hn]; exact spMk_len vs H Q E h) fun cdv A outer s H vs Q E hr hsp => ?_
  obtain ⟨x, dx, us, H0, G, ds, P', R', rfl, n1, n2, ne, rfl, eg, r, hl, hF, hP, hR⟩ := hsp
  obtain ⟨Fb, hb, hq⟩ := hbody cdv A outer s _ E ⟨G, H0⟩ hr
  refine ⟨_, hb, G, startM x C N.length ds, finM x C P' R', ?_, hq x ds P' R' hl hF, ?_⟩
  · have R0 := Rel.startM (C := C) eg n1 n2 ne r (N.length - (ds.length + 1))
    unfold L2.start startM
    rw [List.length_cons, r.len]
    exact R0
  · refine ⟨fun env p σ' G' H' x' rel => ?_, fun env p => p.elim, fun env p => p.elim, fun d p => p.elim, fun env e p σ' G' H' x rel => ((hR e p).grow rel.all).slots⟩
    simp only [finM] at p
    split at p
    · rename_i x1 C1 ns ds1 he
      obtain ⟨rfl, rfl, p⟩ := p
      obtain ⟨q, s1, s2, s3, rfl, dx1, fs, s4, s5, s6⟩ := rel.own he rfl
      exact hP _ p G' H' dx1 fs rel.all s2 s4 s5 s6
    · exact p.elim
variable {CX : CXT} {k n : Nat} {C f : Addr} {fd : FuncData} {ps : List Str} {sp : Sp} {x : Str} {E : L2.St → XK}
theorem run_makeS {pins : List (Addr × Obj)} {σ : L2.St} {H : Hp} {s : Shared} {Q : VK} {us : List Value} {vs : List V} {E : XK} (M : Mk X.K C f) (F : FnOk X.prog X.w X.K X.mg X.base CX k f fd ps sp) (hr : Room (k + 1) X.A) (hb : Binds X.K fd ps [])
    (hx : PassesAt CX X σ E) (I : Inv X pins σ H s) (r : Vals vs us)
    (h : ∀ x dx, H x = none → H dx = none → dx ≠ x → sp (.ref x :: vs) (upd (upd H dx (.own x)) x (.ins C dx [])) (fun v H2 => v = .non ∧ Q (.ref x) H2) E) :
    wpAny (model X.prog X.w) X.A (call (.ref C) us) (EP X pins σ Q) X.xe s := by
  have hq := h (s.heap.objs.size + 1) s.heap.objs.size (I.hok.fresh (Nat.le_succ _)) (I.hok.fresh (Nat.le_refl _)) (Nat.ne_of_lt (Nat.lt_succ_self _))
  have I2 := Inv.made (C := C) I
  have r2 : Vals (V.ref (s.heap.objs.size + 1) :: vs) (Value.ref (s.heap.objs.size + 1) :: us) := .cons rfl r
  have hl : (Value.ref (s.heap.objs.size + 1) :: us ++ []).length = ps.length := by
    have e := r2.length
    rw [F.len _ _ _ _ hq] at e
    rw [List.append_nil]
    exact e.symm
  have b0 := hb _ (Value.ref (s.heap.objs.size + 1) :: us) I2.kIn hl
  rw [List.append_nil] at b0
  refine wpAny_call (make_map (f := f) I.kIn M.makes M.init (beq_iff_eq.mp M.fn) (codeAny_mono (F.run _ X.stack _ _ ⟨Value.ref (s.heap.objs.size + 1) :: us, []⟩ (Value.ref (s.heap.objs.size + 1) :: us) _ _ E (hr.make C us [])
    (I2.env0.make C us []) b0 r2 hq) fun r s' hq' => ?_))
  cases r with
  | error e => exact hx pins _ _ e s' I2 hq'
  | ok fl =>
    cases fl with
    | ret u =>
      obtain ⟨v, H', I3, rv, ev, q3⟩ := I2.after hq'
      subst ev
      exact ⟨rv, ⟨V.ref (s.heap.objs.size + 1), H', I3, rfl, q3⟩⟩
    | next => exact False.elim hq'
    | brk => exact False.elim hq'
    | cont => exact False.elim hq'
def tMakeS (C : Addr) (sp : Sp) (E : L2.St → XK) (t : TA) : TE := fun σ H Q => t σ H fun vs H1 => ∀ x dx, H1 x = none → H1 dx = none → dx ≠ x → sp (.ref x :: vs) (upd (upd H1 dx (.own x)) x (.ins C dx [])) (fun v H2 => v = .non ∧ Q (.ref x) H2) (E σ)
theorem pe_makeS {t : TA} (M : Mk X.K C f) (F : FnOk X.prog X.w X.K X.mg X.base CX k f fd ps sp) (hr : Room (k + 1) X.A) (hg : Gl X x) (hm : X.mg x = some (.ref C)) (hb : Binds X.K fd ps []) (hx : ∀ σ, PassesAt CX X σ (E σ))
    (ha : PA X (e :: es) t) (hdb : (x == ("__debug__" : Str)) = false := by decide) (he : starEach (e :: es) X.env = (false, eval e X.env) :: starEach es X.env := by rfl) (hpl : (backTo pos (starEach es X.env)).any (·.1) = false := by rfl) :
    PE X (.Call (.Name x p) (e :: es) [] pos) (tMakeS C sp E t) := by
  refine ⟨fun pins s σ H Q I h => ?_⟩
  refine wpAny_Call_Name_kw (ld_glob I hg hm ?_ hdb)
  refine PySem.W.callWith_K (h₀ := X.base) I.ok.mod.kin M.kp (thn (ha.run pos pins s σ H _ I h) fun us s1 ⟨vs, H1, I1, r, q⟩ => ⟨I1.kIn, ?_⟩) he hpl
  exact run_makeS M F hr hb (hx σ) I1 r q
@[irreducible] def wMake (C : Addr) (n : Nat) (F : Fm) (fas : Fx (List D)) : Fx D := fun env P R => fas env (fun ds => ds.length = n ∧ F ds (fun y => P (.obj C y.1 y.2)) R) R
theorem pd_make {F : Fm} (M : Mk X.K C f) (hF0 : FnOk X.prog X.w X.K X.mg X.base (L2.CX X.prog X.w) k f fd ps (spMk X.K C n F)) (hr : Room (k + 1) X.A) (hg : Gl X x) (hm : X.mg x = some (.ref C)) (hb : Binds X.K fd ps []) (tk : Takes X W)
    (ha : PDA B W X (e :: es) fas) (hdb : (x == ("__debug__" : Str)) = false := by decide) (he : starEach (e :: es) X.env = (false, eval e X.env) :: starEach es X.env := by rfl) (hpl : (backTo pos (starEach es X.env)).any (·.1) = false := by rfl) :
    PD B W X (.Call (.Name x p) (e :: es) [] pos) (wMake C n F fas) :=
  (pe_makeS M hF0 hr hg hm hb (fun σ => passAt tk σ) ha hdb he hpl).imp fun σ H Q ⟨G, env, P, R, rel, hF, hP, hR⟩ => ⟨G, env, fun ds => ds.length = n ∧ F ds (fun y => P (.obj C y.1 y.2)) R, R, rel, (by unfold wMake at hF; exact hF), fun ds pd vs G1 H1 g1 rvs x dx n1 n2 ne =>
    ⟨x, dx, vs, H1, G1, ds, _, R, rfl, n1, n2, ne, rfl, g1.gh, rvs, pd.1, pd.2, fun y py G2 H2 dx' fs g2 nx hx ey ry => ⟨rfl, hP _ py _ _ _ (g1.trans (g2.see n1 nx hx)) (.obj upd_same ey (ry.ex (exn nx)))⟩, fun e re => ((hR e re).grow g1).call⟩, hR⟩

/-! ### calls by keywords alone: f(a = .., b = ..) -/
def wPerm (g : List D → List D) (fas : Fx (List D)) : Fx (List D) := fun env P R => fas env (fun ds => P (g ds)) R
/-- the bound order is a permutation of the written one, told by places -/
def perm {α : Type} (is : List Nat) (xs : List α) : List α := is.filterMap fun i => xs[i]?
theorem perm_rel {G : Hp} {is : List Nat} {vs : List V} {ds : List D} (r : RepA K G vs ds) : RepA K G (perm is vs) (perm is ds) := by
  induction is with
  | nil => exact .nil
  | cons i is ih =>
    unfold perm at ih ⊢
    rw [List.filterMap_cons, List.filterMap_cons]
    cases hd : ds[i]? with
    | none =>
      have hv : vs[i]? = none := List.getElem?_eq_none_iff.mpr (by rw [r.len]; exact List.getElem?_eq_none_iff.mp hd)
      rw [hv]
      exact ih
    | some d =>
      obtain ⟨v, hv, rv⟩ := r.get hd
      rw [hv]
      exact .cons rv ih
theorem run_fnNS {ks : List Str} {g : List Value → List Value → List Value} {gV : List V → List V → List V} {E : XK} {pins : List (Addr × Obj)} {σ : L2.St} {H : Hp} {s : Shared} {Q : VK} {us ws : List Value} {vs zs : List V} (F : FnOk X.prog X.w X.K X.mg X.base CX k f fd ps sp) (hr : Room k X.A) (hb : KBn X.K fd ps n ks g gV) (hx : PassesAt CX X σ E)
    (I : Inv X pins σ H s) (r : Vals vs us) (rz : Vals zs ws) (l1 : vs.length = n) (l2 : zs.length = ks.length) (h : sp (gV vs zs) H Q E) : wpAny (model X.prog X.w) X.A (call (.ref f) us (ks.zip ws)) (EP X pins σ Q) X.xe s := by
  have r2 := hb.rel r rz
  refine wpAny_call (codeAny_mono (F.run X.A X.stack s H ⟨us, ks.zip ws⟩ (g us ws) (gV vs zs) Q E hr I.env0 (hb.to s us ws I.kIn (r.length.symm.trans l1) (rz.length.symm.trans l2)) r2 h) fun r s' hq => ?_)
  cases r with
  | error e => exact hx pins H s e s' I hq
  | ok fl =>
    cases fl with
    | ret u => exact I.after hq
    | next => exact False.elim hq
    | brk => exact False.elim hq
    | cont => exact False.elim hq
def tCallNS (m : Nat) (sp : Sp) (gV : List V → List V → List V) (E : L2.St → XK) (tk : TA) : TE := fun σ H Q => tk σ H fun zs H2 => zs.length = m ∧ sp (gV [] zs) H2 Q (E σ)
variable {kws : List Keyword} {ks : List Str} {g : List Value → List Value → List Value} {gV : List V → List V → List V} {tk' : TA}
theorem pe_callKS (F : FnOk X.prog X.w X.K X.mg X.base CX k f fd ps sp) (hr : Room k X.A) (hg : Gl X x) (hm : X.mg x = some (.ref f)) (hk : PySem.W.keepIn X.K (.ref f) = true) (hb : KBn X.K fd ps 0 ks g gV) (hx : ∀ σ, PassesAt CX X σ (E σ)) (hkw : L2.PK X kws tk')
    (hall : (backToKw pos (keywordEach kws X.env)).all (·.1.isSome) = true := by rfl) (hks : (backToKw pos (keywordEach kws X.env)).filterMap (·.1) = ks := by rfl) (hdb : (x == ("__debug__" : Str)) = false := by decide)
    (hpl : ((backTo pos (starEach [] X.env)).any (·.1) || (backToKw pos (keywordEach kws X.env)).any (·.1.isNone)) = false := by rfl) :
    PE X (.Call (.Name x p) [] kws pos) (tCallNS ks.length sp gV E tk') := by
  refine ⟨fun pins s σ H Q I h => ?_⟩
  refine wpAny_Call_Name_kw (ld_glob I hg hm ?_ hdb)
  refine PySem.W.callWith_KW0 (h₀ := X.base) I.ok.mod.kin hk hall ?_ hpl
  refine thn (hkw.run pos pins s σ H _ I h) fun ws s2 ⟨zs, H2, I2, rz, l2, q2⟩ => ⟨I2.kIn, ?_⟩
  rw [hks]
  exact run_fnNS (us := []) (vs := []) F hr hb (hx σ) I2 .nil rz rfl l2 q2
def PDK (B : Bs) (W : WX) (X : Cx) (kws : List Keyword) (F : Fx (List D)) : Prop := L2.PK X kws (tA X.K B W F)
theorem _root_.L2.PK.imp {X : Cx} {e : List Keyword} {t t' : TA} (h : L2.PK X e t) (k : ∀ σ H Q, t' σ H Q → t σ H Q) : L2.PK X e t' := ⟨fun pos pins s σ H Q I q => h.run pos pins s σ H Q I (k σ H Q q)⟩
theorem pdk_nil : PDK B W X [] wNil := pk_nil.imp fun σ H Q ⟨G, env, P, R, rel, hF, hP, hR⟩ => hP _ hF [] G H (Grow.refl rel.gh) .nil
theorem pdk_cons {nm : Option Str} {kpos : Pos} (ha : PD B W X a fa) (hr : PDK B W X kws fas) : PDK B W X (⟨nm, a, kpos⟩ :: kws) (wCons fa fas) :=
  (pk_cons ha hr).imp fun σ H Q ⟨G, env, P, R, rel, hF, hP, hR⟩ => ⟨G, env, _, R, rel, hF, fun dx px x G1 H1 g1 rx => ⟨G1, env, _, R, rel.grow g1, px, fun ds pds vs G2 H2 g2 rvs => hP _ pds _ G2 H2 (g1.trans g2) (.cons (rx.ex g2.g) rvs), fun e re => (hR e re).grow g1⟩, hR⟩
theorem pd_callK {F : Fd} {is : List Nat} (hF0 : FnOk X.prog X.w X.K X.mg X.base (L2.CX X.prog X.w) k f fd ps (spP X.K n F)) (hr : Room k X.A) (hg : Gl X x) (hm : X.mg x = some (.ref f)) (hk : PySem.W.keepIn X.K (.ref f) = true) (hb : KBn X.K fd ps 0 ks (fun _ zs => perm is zs) (fun _ zs => perm is zs)) (tk : Takes X W) (hkw : PDK B W X kws fas)
    (hall : (backToKw pos (keywordEach kws X.env)).all (·.1.isSome) = true := by rfl) (hks : (backToKw pos (keywordEach kws X.env)).filterMap (·.1) = ks := by rfl) (hdb : (x == ("__debug__" : Str)) = false := by decide)
    (hpl : ((backTo pos (starEach [] X.env)).any (·.1) || (backToKw pos (keywordEach kws X.env)).any (·.1.isNone)) = false := by rfl) :
    PD B W X (.Call (.Name x p) [] kws pos) (fun env P R => fas env (fun ds => ds.length = ks.length ∧ (perm is ds).length = n ∧ F (perm is ds) P R) R) :=
  (pe_callKS hF0 hr hg hm hk hb (fun σ => passAt tk σ) hkw hall hks hdb hpl).imp fun σ H Q ⟨G, env, P, R, rel, hF, hP, hR⟩ => ⟨G, env, _, R, rel, hF, fun ds pd vs G1 H1 g1 rvs =>
    ⟨by rw [rvs.len]; exact pd.1, G1, perm is ds, P, R, g1.gh, perm_rel rvs, pd.2.1, pd.2.2, fun d pd v G2 H2 g2 rv => hP d pd v G2 H2 (g1.trans g2) rv, fun e re => ((hR e re).grow g1).call⟩, hR⟩
theorem vals_perm {is : List Nat} {zs : List V} {ws : List Value} (r : Vals zs ws) : Vals (perm is zs) (perm is ws) := by
  induction is with
  | nil => exact .nil
  | cons i is ih =>
    unfold perm at ih ⊢
    rw [List.filterMap_cons, List.filterMap_cons]
    cases hd : zs[i]? with
    | none =>
      rw [r.none_of hd]
      exact ih
    | some d =>
      obtain ⟨u, hu, ru⟩ := r.get hd
      rw [hu]
      exact .cons ru ih
/-- how keywords alone bind -/
theorem kbn_perm {is : List Nat} (h : ∀ (s : Shared) (ws : List Value), ws.length = ks.length → BindsTo s fd ⟨[], ks.zip ws⟩ (ps.zip (perm is ws))) : KBn K fd ps 0 ks (fun _ zs => perm is zs) (fun _ zs => perm is zs) :=
  ⟨fun s us ws hk h1 h2 => by
    obtain rfl : us = [] := List.eq_nil_of_length_eq_zero h1
    exact h s ws h2, fun _ r => vals_perm r⟩

/-! ### a local name that holds a def -/
def tCallLS (i : Nat) (f : Addr) (sp : Sp) (E : L2.St → XK) (t : TA) : TE := fun σ H Q => σ[i]? = some (some (.ref f)) ∧ t σ H fun vs H1 => sp vs H1 Q (E σ)
theorem pe_callLS {i : Nat} {t : TA} (F : FnOk X.prog X.w X.K X.mg X.base CX k f fd ps sp) (hr : Room k X.A) (hN : X.N[i]? = some x) (hv : Vis X.env.scope x) (hk : PySem.W.keepIn X.K (.ref f) = true) (hb : Binds X.K fd ps []) (hx : ∀ σ, PassesAt CX X σ (E σ)) (ha : PA X (e :: es) t)
    (hdb : (x == ("__debug__" : Str)) = false := by decide) (hcd : (x == ("__classdict__" : Str)) = false := by decide)
    (he : starEach (e :: es) X.env = (false, eval e X.env) :: starEach es X.env := by rfl) (hpl : (backTo pos (starEach es X.env)).any (·.1) = false := by rfl) : PE X (.Call (.Name x p) (e :: es) [] pos) (tCallLS i f sp E t) := by
  refine ⟨fun pins s σ H Q I h => ?_⟩
  obtain ⟨hs, ht⟩ := h
  refine wpAny_Call_Name_kw (thn ((pe_var (pos := p) hN hv hdb hcd).run pins s σ H (fun v H1 => v = .ref f ∧ H1 = H) I ⟨.ref f, hs, rfl, rfl⟩) fun u s1 ⟨v, H1, I1, r1, q1⟩ => ?_)
  obtain ⟨rfl, rfl⟩ := q1
  cases r1
  refine PySem.W.callWith_K (h₀ := X.base) I.ok.mod.kin hk (thn (ha.run pos pins s1 σ _ _ I1 ht) fun us s2 ⟨vs, H2, I2, r, q⟩ => ⟨I2.kIn, ?_⟩) he hpl
  exact run_fnS F hr hb (hx σ) I2 r q
def wCallL (i : Nat) (f : Addr) (n : Nat) (F : Fd) (fas : Fx (List D)) : Fx D := fun env P R => env[i]? = some (.v (.raw (.ref f))) ∧ fas env (fun ds => ds.length = n ∧ F ds P R) R
theorem pd_callL {i : Nat} {F : Fd} (hF0 : FnOk X.prog X.w X.K X.mg X.base (L2.CX X.prog X.w) k f fd ps (spP X.K n F)) (hr : Room k X.A) (hk : PySem.W.keepIn X.K (.ref f) = true) (hb : Binds X.K fd ps []) (tk : Takes X W) (ha : PDA B W X (e :: es) fas)
    (hN : X.N[i]? = some x := by rfl) (hv : Vis X.env.scope x := by first | exact Or.inl rfl | exact Or.inr (Or.inl rfl) | exact Or.inr (Or.inr rfl))
    (hdb : (x == ("__debug__" : Str)) = false := by decide) (hcd : (x == ("__classdict__" : Str)) = false := by decide) (he : starEach (e :: es) X.env = (false, eval e X.env) :: starEach es X.env := by rfl) (hpl : (backTo pos (starEach es X.env)).any (·.1) = false := by rfl) :
    PD B W X (.Call (.Name x p) (e :: es) [] pos) (wCallL i f n F fas) :=
  (pe_callLS hF0 hr hN hv hk hb (fun σ => passAt tk σ) ha hdb hcd he hpl).imp fun σ H Q ⟨G, env, P, R, rel, hF, hP, hR⟩ => by
    obtain ⟨v, h1, h2⟩ := rel.val hF.1
    cases h2
    exact ⟨h1, G, env, _, R, rel, hF.2, fun ds pd vs G1 H1 g1 rvs => ⟨G1, ds, P, R, g1.gh, rvs, pd.1, pd.2, fun d pd v G2 H2 g2 rv => hP d pd v G2 H2 (g1.trans g2) rv, fun e re => ((hR e re).grow g1).call⟩, hR⟩

/-! ### raise, try -/
variable {C0 : Addr} {fn gn : Str} {Bn newId : String}
def wRaise1 (C : Addr) (f : Str) (fa : Fx D) : Fs := fun env P => fa env (fun d => P (.er env (.fld C [f] [d]))) (fun e => P (.er env e))
theorem pds_raise1 (hc : X.calm = true) (tk : Takes X W) (hm : PMk X e (tMkO C0 (Xc.spI C0 fn) [] (tCons (tP X.K B W fa) tNil))) : PDs B W X (.Raise (some e) none pos) (wRaise1 C0 fn fa) :=
  (ps_raise hc tk hm).imp fun Dn σ H ⟨G, env, P, rel, hF, ok⟩ => ⟨G, env, _, _, rel, hF, fun d pd v G1 H1 g1 rv => Xc.mk1 (C := C0) (f := fn) (H1 := H1) (v := v) (Q := fun cls d H' => W cls d σ H') fun dd nd =>
    ok.er _ _ pd σ G1 H1 g1.g (rel.grow g1) _ _ dd [(fn, v)] (Grow.new g1.gh nd) upd_same rfl (.one (rv.ex (exn (Evl.fresh_back g1.gh nd)))), ok.err rel⟩
def wRaise2 (C : Addr) (f g : Str) (fa fb : Fx D) : Fs := fun env P => fa env (fun d => fb env (fun d2 => P (.er env (.fld C [g, f] [d2, d]))) (fun e => P (.er env e))) (fun e => P (.er env e))
theorem pds_raise2 (hc : X.calm = true) (tk : Takes X W) (hm : PMk X e (tMkO C0 (Xc.spI2 C0 fn gn) [] (tCons (tP X.K B W fa) (tCons (tP X.K B W fb) tNil)))) : PDs B W X (.Raise (some e) none pos) (wRaise2 C0 fn gn fa fb) :=
  (ps_raise hc tk hm).imp fun Dn σ H ⟨G, env, P, rel, hF, ok⟩ => ⟨G, env, _, _, rel, hF, fun d pd v G1 H1 g1 rv => ⟨G1, env, _, _, rel.grow g1, pd, fun d2 pd2 u G2 H2 g2 ru => Xc.mk2 (C := C0) (f := fn) (g := gn) (H1 := H2) (v := v) (u := u) (Q := fun cls d H' => W cls d σ H') fun dd nd =>
    ok.er _ _ pd2 σ G2 H2 (g1.trans g2).g (rel.grow (g1.trans g2)) _ _ dd [(gn, u), (fn, v)] (Grow.new g2.gh nd) upd_same rfl (.cons (ru.ex (exn (Evl.fresh_back g2.gh nd))) (.one (rv.ex (g2.g.trans (exn (Evl.fresh_back g2.gh nd)))))), fun e p => ((ok.err rel) e p).grow g1⟩, ok.err rel⟩
/-- in a suite: the error that was caught -/
def XcAt (K : PySem.W.Frag) (B : Bs) (cls : Value) (d : Option Addr) (C : Addr) (ns : List Str) (ds : List D) : Prop := cls = .ref C ∧ ∃ (dd : Addr) (fs : List (Str × V)), d = some dd ∧ B.G dd = some (.xd fs) ∧ fs.map (·.1) = ns ∧ RepA K B.G (fs.map (·.2)) ds
def tSu (K : PySem.W.Frag) (B : Bs) (C : Addr) (i : Nat) (F : List Str → List D → Fs) (cls : Value) (d : Option Addr) : TS := fun Dn σ H => ∃ (B2 : Bs) (ns : List Str) (ds : List D), XcAt K B2 cls d C ns ds ∧ tS K B2 W0 (F ns ds) Dn σ H
theorem pdss_suite {X : Cx} {i : Nat} {cls : Value} {d : Option Addr} {sts : List Stmt} {F : List Str → List D → Fs} (h : ∀ (B2 : Bs) (ns : List Str) (ds : List D), XcAt X.K B2 cls d C0 ns ds → PDss B2 W0 X sts (F ns ds)) : PSs X sts (tSu X.K B C0 i F cls d) :=
  ⟨fun pins s σ H D I ⟨B2, ns, ds, hx, q⟩ => (h B2 ns ds hx).run pins s σ H D I q⟩
def wXf (i : Nat) (a : Addr) (f : Str) (ns : List Str) (ds : List D) : Fx D := fun env P _ => env[i]? = some (.v (.raw (.ref a))) ∧ match nlook ns ds f with
  | some d => P d
  | none => False
theorem pd_xf {X : Cx} {a' : Addr} {oe : Obj} {cls : Value} {d : Option Addr} {pn : List (Addr × Obj)} {i : Nat} {f : Str} {ns : List Str} {ds : List D} {B : Bs} {W : WX} (hx : XcAt X.K B cls d C0 ns ds) (T : XfC X.K C0) (hno : PySem.W.findIn X.K (.ref C0) f = some none)
    (hz : Zc cls d oe) (hf : ∃ vs, oe.data = .fields vs) (hv : PE (X.suite a' ((a', oe) :: pn)) e (tVar i)) (hb : attributeBase e f X.env (eval e X.env) = eval e X.env := by rfl) : PD B W (X.suite a' ((a', oe) :: pn)) (.Attribute e f pos) (fun env P R => wXf i a' f ns ds env P R) :=
  (pe_xf T hno hz hf hv hb).imp fun σ H Q ⟨G, env, P, R, rel, hF, hP, hR⟩ => by
    obtain ⟨ec, dd, fs, ed, e1, e2, e3⟩ := hx
    obtain ⟨v, h1, h2⟩ := rel.val hF.1
    cases h2
    have hF2 := hF.2
    split at hF2
    · rename_i d' hd
      obtain ⟨u, h3, h4⟩ := nlook_of e2 e3 hd
      exact ⟨_, h1, rfl, ec, dd, fs, u, ed, rel.gh _ _ (rel.bg _ _ e1), h3, hP _ hF2 u G H (Grow.refl rel.gh) (h4.ex rel.bg)⟩
    · exact hF2.elim
end
end Pd
set_option maxRecDepth 100000
set_option maxHeartbeats 4000000
/-! try; dicts; truth; pops; several targets -/
namespace Pd
open PySem PySem.Spec PyProof.Rows L2 Pre
section
variable {B : Bs} {W : WX} {X : Cx} {pos p : Pos} {a b c e tg iter : Expr} {fa fb fc : Fx D} {ga : Fx Bool} {es : List Expr} {fas : Fx (List D)} {K : PySem.W.Frag} {f g h : Fs} {st : Stmt} {rest : List Stmt}

/-! ### try -/
theorem Rel.rebase {G H : Hp} {σ : L2.St} {env : En} (r : Rel K B G σ H env) : Rel K ⟨G, B.H⟩ G σ H env :=
  ⟨ex0, r.bh, r.gh, fun _ _ => rfl, r.len, fun i o s h1 h2 => by
    have q := r.sl i o s h1 h2
    cases s <;> exact q, r.ds⟩
theorem Rel.unbase {G G2 H H2 : Hp} {σ σ2 : L2.St} {env env2 : En} (r : Rel K B G2 σ2 H2 env2) (r' : Rel K ⟨G2, B.H⟩ G σ H env) : Rel K B G σ H env :=
  ⟨r.bg.trans r'.bg, r'.bh, r'.gh, fun p hp => (r'.nw p hp).trans (r.nw p hp), r'.len, fun i o s h1 h2 => by
    have q := r'.sl i o s h1 h2
    cases s <;> exact q, r'.ds⟩
def clrO (i : Nat) : Out → Out
  | .nx env => .nx (env.set i .no)
  | .bk env => .bk (env.set i .no)
  | .ct env => .ct (env.set i .no)
  | o => o
def wTry (C : Addr) (i : Nat) (fb : Fs) (fsu : Addr → List Str → List D → Fs) : Fs := fun env P => fb env (fun o => match o with
  | .er env' (.fld C' ns ds) => C' = C ∧ ∀ a, fsu a ns ds (env'.set i (.v (.raw (.ref a)))) (fun o => match o with | .er _ _ => False | o => P (clrO i o))
  | .er _ _ => False
  | .nx e => P (.nx e) | .bk e => P (.bk e) | .ct e => P (.ct e) | .rt d => P (.rt d))
theorem wTry_ok {C : Addr} {i : Nat} {fb : Fs} {fsu : Addr → List Str → List D → Fs} (hex : PySem.W.exmOne K (.ref C) (.ref C) = some true) {Dn : Ends} {σ : L2.St} {H : Hp} (q : tS K B W (wTry C i fb fsu) Dn σ H) :
    tS K B (Xc.wAll K W Dn [(.ref C, some i, fun a cls d => tSu K B C i (fsu a) cls d)]) fb Dn σ H := by
  obtain ⟨G, env, P, rel, hF, ok⟩ := q
  refine ⟨G, env, _, rel, hF, ⟨ok.nx, ok.bk, ok.ct, ok.rt, fun env' e p σ' G' H' x rel' => ?_⟩⟩
  cases e with
  | bare C => exact p.elim
  | blt n => exact p.elim
  | fld C' ns ds =>
    obtain ⟨rfl, p⟩ := p
    intro G2 H2 dd fs g2 e1 e2 e3
    refine ⟨true, hex, fun _ a na => ?_, fun z => nomatch z⟩
    have rel2 := rel'.grow g2
    have rr := rel2.rebase
    refine ⟨⟨G2, B.H⟩, ns, ds, ⟨rfl, dd, fs, rfl, e1, e2, e3⟩, G2, _, _, rr.setv (.raw (.ref a)) i, p a, ?_⟩
    have xx := x.trans g2.g
    refine ⟨fun env3 p3 σ3 G3 H3 x3 rel3 => ok.nx _ p3 _ G3 H3 (xx.trans x3) ((rel2.unbase rel3).setno i none), fun env3 p3 σ3 G3 H3 x3 rel3 => ok.bk _ p3 _ G3 H3 (xx.trans x3) ((rel2.unbase rel3).setno i none),
      fun env3 p3 σ3 G3 H3 x3 rel3 => ok.ct _ p3 _ G3 H3 (xx.trans x3) ((rel2.unbase rel3).setno i none), fun d p3 v G3 H3 g3 r => ok.rt d p3 v G3 H3 ⟨rel2.bg.trans g3.g, g3.h, g3.gh, fun p hp => (g3.nw p hp).trans (rel2.nw p hp)⟩ r, fun env3 e p3 => p3.elim⟩
theorem pds_try {C : Addr} {i : Nat} {fb : Fs} {fsu : Addr → List Str → List D → Fs} {body : List Stmt} {x n : Str} {b₀ : Stmt} {suite : List Stmt} {np pos' : Pos} (hex : PySem.W.exmOne X.K (.ref C) (.ref C) = some true) (hs : X.stack = X.env :: X.outer) (hf : X.env.frame = some X.env.locals) (tk : Takes X W)
    (hN : X.N.Nodup) (hi : X.N[i]? = some n) (hln : X.env.kindOf n = some .local) (hc : Names X x (.ref C))
    (hb : ∀ (W' : WX) (pn : List (Addr × Obj)) (xe : Value → Shared → Prop), Takes (X.tr pn xe) W' → PassesOwn (model X.prog X.w) X.A X.env xe → PDss B W' (X.tr pn xe) body fb)
    (hsu : ∀ (a : Addr) (oe : Obj) (cls : Value) (d : Option Addr) (pn : List (Addr × Obj)), Zc cls d oe → (∃ vs, oe.data = .fields vs) → PSs (X.suite a ((a, oe) :: pn)) (b₀ :: suite) (tSu X.K B C i (fsu a) cls d)) :
    PDs B W X (.Try body [.ExceptHandler (some (.Name x np)) (some n) (b₀ :: suite) pos'] [] [] pos) (wTry C i fb fsu) :=
  (Xc.ps_try_all (tb := fun W' => tS X.K B W' fb) (l := [(.ref C, some i, fun a cls d => tSu X.K B C i (fsu a) cls d)]) hs hf tk hb (Xc.Hds.as_ hN hi hln hc hsu .nil)).imp fun Dn σ H q => wTry_ok hex q

/-! ### dicts -/
def keyOf : D → Option Key
  | .int i => some (.inl i)
  | .str s => some (.inr s)
  | _ => none
def dOf : Key → D
  | .inl i => .int i
  | .inr s => .str s
theorem keyOf_rep {G : Hp} {v : V} {d : D} {k : Key} (r : Rep K G v d) (h : keyOf d = some k) : v = kV k := by
  cases d <;> first | (cases h; done) | skip
  · cases h; exact r.int_inv
  · cases h; exact r.str_inv
theorem rep_key {G : Hp} (k : Key) : Rep K G (kV k) (dOf k) := by
  cases k with
  | inl i => exact .int i
  | inr s => exact .str s
def dget : List Key → List D → Key → Option D
  | k' :: ks, d :: ds, k => if k' = k then some d else dget ks ds k
  | _, _, _ => none
theorem dget_of {G : Hp} {k : Key} : ∀ {kvs : List (Key × V)} {ds : List D}, RepA K G (kvs.map (·.2)) ds → (∀ d, dget (kvs.map (·.1)) ds k = some d → ∃ v, valV kvs k = some v ∧ Rep K G v d) ∧ (dget (kvs.map (·.1)) ds k = none → valV kvs k = none)
  | [], ds, r => by
    cases r
    exact ⟨fun d h => (by cases h), fun _ => rfl⟩
  | (k', v) :: kvs, ds, r => by
    cases r with
    | cons h r =>
      rename_i d ds
      obtain ⟨h1, h2⟩ := dget_of (k := k) r
      by_cases q : k' = k
      · have e0 : dget (List.map (fun x => x.1) ((k', v) :: kvs)) (d :: ds) k = some d := by
          show (if k' = k then some d else _) = _
          rw [if_pos q]
        rw [e0, valV_pos q]
        exact ⟨fun d' e => (by cases e; exact ⟨v, rfl, h⟩), fun e => (by cases e)⟩
      · have e0 : dget (List.map (fun x => x.1) ((k', v) :: kvs)) (d :: ds) k = dget (kvs.map (·.1)) ds k := by
          show (if k' = k then some d else _) = _
          rw [if_neg q]
        rw [e0, valV_neg q]
        exact ⟨h1, h2⟩
def dput (ks : List Key) (ds : List D) (k : Key) (d : D) : List Key × List D := if (ks.any fun k' => decide (k' = k)) = true then (ks, List.zipWith (fun k' d' => if k' = k then d else d') ks ds) else (ks ++ [k], ds ++ [d])
theorem repA_zw {G : Hp} {k : Key} {v : V} {d : D} (rv : Rep K G v d) : ∀ {kvs : List (Key × V)} {ds : List D}, RepA K G (kvs.map (·.2)) ds → RepA K G ((kvs.map fun kv => if kv.1 = k then (kv.1, v) else kv).map (·.2)) (List.zipWith (fun k' d' => if k' = k then d else d') (kvs.map (·.1)) ds)
  | [], ds, r => by cases r; exact .nil
  | (k', u) :: kvs, ds, r => by
    cases r with
    | cons h r =>
      have ih := repA_zw (k := k) rv r
      simp only [List.map_cons, List.zipWith_cons_cons]
      refine .cons ?_ ih
      by_cases q : k' = k
      · rw [if_pos q, if_pos q]; exact rv
      · rw [if_neg q, if_neg q]; exact h
theorem dput_of {G : Hp} {k : Key} {v : V} {d : D} (rv : Rep K G v d) {kvs : List (Key × V)} {ds : List D} (r : RepA K G (kvs.map (·.2)) ds) : (putK kvs k v).map (·.1) = (dput (kvs.map (·.1)) ds k d).1 ∧ RepA K G ((putK kvs k v).map (·.2)) (dput (kvs.map (·.1)) ds k d).2 := by
  have hany : ((kvs.map (·.1)).any fun k' => decide (k' = k)) = kvs.any fun kv => decide (kv.1 = k) := by
    rw [List.any_map]
    rfl
  unfold putK dput
  rw [hany]
  by_cases q : (kvs.any fun kv => decide (kv.1 = k)) = true
  · rw [if_pos q, if_pos q]
    refine ⟨?_, repA_zw rv r⟩
    rw [List.map_map]
    apply List.map_congr_left
    intro kv _
    show (if kv.1 = k then (kv.1, v) else kv).1 = kv.1
    split <;> rfl
  · rw [if_neg q, if_neg q]
    rw [List.map_append, List.map_append]
    exact ⟨rfl, r.app (.one rv)⟩
def envDic (env : En) (i : Nat) : Option (List Key × List D) := match env[i]? with
  | some (.k ks ds) => some (ks, ds)
  | some (.v (.dic ks ds)) => some (ks, ds)
  | _ => none
theorem Rel.dic {G H : Hp} {σ : L2.St} {env : En} {i : Nat} {x : List Key × List D} (rel : Rel K B G σ H env) (h : envDic env i = some x) : ∃ q, ∃ kvs : List (Key × V), σ[i]? = some (some (.ref q)) ∧ H q = some (.dK kvs) ∧ kvs.map (·.1) = x.1 ∧ RepA K G (kvs.map (·.2)) x.2 := by
  unfold envDic at h
  split at h
  · rename_i ks ds he
    cases h
    obtain ⟨p, kvs, h1, h2, h3, h4, h5⟩ := get_ownK rel he
    exact ⟨p, kvs, h1, h3, h4, h5⟩
  · rename_i ks ds he
    cases h
    obtain ⟨v, h1, h2⟩ := rel.val he
    cases h2 with
    | dic h e r => exact ⟨_, _, h1, rel.gh _ _ h, e, r⟩
  · cases h
/-- d.get(k, x) -/
def wDGet (i : Nat) (fk fx : Fx D) : Fx D := fun env P R => match envDic env i with
  | some x => fk env (fun k => fx env (fun z => match keyOf k with | some kk => P ((dget x.1 x.2 kk).getD z) | none => False) R) R
  | none => False
theorem pd_dget2 {i : Nat} (h : PE X e (tDGet2 (tVar i) (tP X.K B W fa) (tP X.K B W fb))) : PD B W X e (wDGet i fa fb) :=
  h.imp fun σ H Q ⟨G, env, P, R, rel, hF, hP, hR⟩ => by
    unfold wDGet at hF
    split at hF
    · rename_i x hx
      obtain ⟨q, kvs, s1, s2, s3, s4⟩ := rel.dic hx
      refine ⟨.ref q, s1, q, rfl, .inl ⟨kvs, .inl s2⟩, G, env, _, R, rel, hF, fun dk pk vk G1 H1 g1 rk => ⟨G1, env, _, R, rel.grow g1, pk, fun dz pz vz G2 H2 g2 rz => ?_, fun e re => (hR e re).grow g1⟩, hR⟩
      split at pz
      · rename_i kk hk
        have ek := keyOf_rep rk hk
        subst ek
        rw [← s3] at pz
        have s4' := s4.ex (g1.trans g2).g
        obtain ⟨h1, h2⟩ := dget_of (k := kk) s4'
        refine ⟨_, DGet.k ((g1.trans g2).h _ _ s2), ?_⟩
        cases hd : dget (kvs.map (·.1)) x.2 kk with
        | none =>
          rw [h2 hd]
          rw [hd] at pz
          exact hP _ pz _ G2 H2 (g1.trans g2) rz
        | some d =>
          obtain ⟨v, hv, rv⟩ := h1 d hd
          rw [hv]
          rw [hd] at pz
          exact hP _ pz _ G2 H2 (g1.trans g2) rv
      · exact pz.elim
    · exact hF.elim
/-- d[k], it is there -/
@[irreducible] def wDIx (i : Nat) (fk : Fx D) : Fx D := fun env P R => match envDic env i with
  | some x => fk env (fun k => match keyOf k with
    | some kk => match dget x.1 x.2 kk with
      | some d => P d
      | none => False
    | none => False) R
  | none => False
theorem pd_dix {i : Nat} (h : PE X e (tDGet (tVar i) (tP X.K B W fa))) : PD B W X e (wDIx i fa) :=
  h.imp fun σ H Q ⟨G, env, P, R, rel, hF, hP, hR⟩ => by
    unfold wDIx at hF
    split at hF
    · rename_i x hx
      obtain ⟨q, kvs, s1, s2, s3, s4⟩ := rel.dic hx
      refine ⟨.ref q, s1, G, env, _, R, rel, hF, fun dk pk vk G1 H1 g1 rk => ?_, hR⟩
      split at pk
      · rename_i kk hk
        have ek := keyOf_rep rk hk
        subst ek
        split at pk
        · rename_i d hd
          rw [← s3] at hd
          obtain ⟨v, hv, rv⟩ := (dget_of (k := kk) (s4.ex g1.g)).1 d hd
          exact ⟨q, v, rfl, by rw [← hv]; exact DGet.k (g1.h _ _ s2), hP _ pk v G1 H1 g1 rv⟩
        · exact pk.elim
      · exact pk.elim
    · exact hF.elim
/-- k in d -/
def wDIn (neg : Bool) (i : Nat) (fk : Fx D) : Fx D := fun env P R => match envDic env i with
  | some x => fk env (fun k => match keyOf k with
    | some kk => P (.bl (if neg then !(dget x.1 x.2 kk).isSome else (dget x.1 x.2 kk).isSome))
    | none => False) R
  | none => False
theorem dget_some {G : Hp} {kvs : List (Key × V)} {ds : List D} {k : Key} (r : RepA K G (kvs.map (·.2)) ds) : (valV kvs k).isSome = (dget (kvs.map (·.1)) ds k).isSome := by
  obtain ⟨h1, h2⟩ := dget_of (k := k) r
  cases hd : dget (kvs.map (·.1)) ds k with
  | none => rw [h2 hd]; rfl
  | some d => obtain ⟨v, hv, _⟩ := h1 d hd; rw [hv]; rfl
theorem wDIn_ok {neg : Bool} {i : Nat} {σ : L2.St} {H : Hp} {Q : VK} (h : tP K B W (wDIn neg i fa) σ H Q) : (if neg then tDNotIn (tP K B W fa) (tVar i) σ H Q else tDIn (tP K B W fa) (tVar i) σ H Q) := by
  obtain ⟨G, env, P, R, rel, hF, hP, hR⟩ := h
  unfold wDIn at hF
  split at hF
  · rename_i x hx
    obtain ⟨q, kvs, s1, s2, s3, s4⟩ := rel.dic hx
    cases neg with
    | false =>
      refine ⟨G, env, _, R, rel, hF, fun dk pk vk G1 H1 g1 rk => ?_, hR⟩
      split at pk
      · rename_i kk hk
        have ek := keyOf_rep rk hk
        subst ek
        refine ⟨.ref q, s1, q, _, rfl, DGet.k (g1.h _ _ s2), ?_⟩
        rw [← s3, ← dget_some s4] at pk
        exact hP _ pk _ G1 H1 g1 (.bl _)
      · exact pk.elim
    | true =>
      refine ⟨G, env, _, R, rel, hF, fun dk pk vk G1 H1 g1 rk => ?_, hR⟩
      split at pk
      · rename_i kk hk
        have ek := keyOf_rep rk hk
        subst ek
        refine ⟨.ref q, s1, q, _, rfl, DGet.k (g1.h _ _ s2), ?_⟩
        rw [← s3, ← dget_some s4] at pk
        exact hP _ pk _ G1 H1 g1 (.bl _)
      · exact pk.elim
  · exact hF.elim
theorem pd_inK {i : Nat} (hu : X.A.units + 1 < cLine) (ha : PD B W X a fa) (hb : PE X b (tVar i)) (hm : behindInMarks .In b = false := by rfl) : PD B W X (.Compare a [.In] [b] pos) (wDIn false i fa) := (pe_cmp (pc_din hu ha hb) hm).imp fun _ _ _ q => wDIn_ok (neg := false) q
theorem pd_notInK {i : Nat} (hu : X.A.units + 1 < cLine) (ha : PD B W X a fa) (hb : PE X b (tVar i)) (hm : behindInMarks .NotIn b = false := by rfl) : PD B W X (.Compare a [.NotIn] [b] pos) (wDIn true i fa) := (pe_cmp (pc_dnotin hu ha hb) hm).imp fun _ _ _ q => wDIn_ok (neg := true) q
theorem wB_t {fa' : Fx D} {t : TE} (k : ∀ σ H Q, tP K B W fa' σ H Q → t σ H Q) {σ : L2.St} {H : Hp} {Q : Bool → Hp → Prop} (h : tQ K B W (wB fa') σ H Q) : tB t σ H Q := k _ _ _ (wB_ok h)
theorem pq_inK {i : Nat} (hu : X.A.units + 1 < cLine) (ha : PD B W X a fa) (hb : PE X b (tVar i)) (hm : behindInMarks .In b = false := by rfl) : PQ B W X (.Compare a [.In] [b] pos) (wB (wDIn false i fa)) := (pt_cmp (pc_din hu ha hb) hm).imp fun _ _ _ q => wB_t (fun _ _ _ q => wDIn_ok (neg := false) q) q
theorem pq_notInK {i : Nat} (hu : X.A.units + 1 < cLine) (ha : PD B W X a fa) (hb : PE X b (tVar i)) (hm : behindInMarks .NotIn b = false := by rfl) : PQ B W X (.Compare a [.NotIn] [b] pos) (wB (wDIn true i fa)) := (pt_cmp (pc_dnotin hu ha hb) hm).imp fun _ _ _ q => wB_t (fun _ _ _ q => wDIn_ok (neg := true) q) q
/-- d[k] = v, d one's own -/
@[irreducible] def wDPut (i : Nat) (fk fv : Fx D) : Fs := fun env P => fv env (fun v => fk env (fun k => match env[i]?, keyOf k with
  | some (.k ks ds), some kk => ks.length < sizeLine ∧ P (.nx (env.set i (.k (dput ks ds kk v).1 (dput ks ds kk v).2)))
  | _, _ => False) (fun e => P (.er env e))) (fun e => P (.er env e))
theorem pds_dput {i : Nat} (h : PS X st (sDPut (tVar i) (tP X.K B W fa) (tP X.K B W fb))) : PDs B W X st (fun env P => (∃ ks ds, env[i]? = some (.k ks ds)) ∧ wDPut i fa fb env P) :=
  h.imp fun Dn σ H ⟨G, env, P, rel, ⟨⟨ks, ds, he⟩, hF⟩, ok⟩ => by
  unfold wDPut at hF
  exact ⟨G, env, _, _, rel, hF, fun dv pv v G1 H1 g1 rv => by
    have rel1 := rel.grow g1
    obtain ⟨q, kvs, s1, s2, s3, s4, s5⟩ := get_ownK rel1 he
    refine ⟨.ref q, s1, G1, env, _, _, rel1, pv, fun dk pk vk G2 H2 g2 rk => ?_, fun e p => ((ok.err rel) e p).grow g1⟩
    rw [he] at pk
    split at pk
    · rename_i ks' ds' kk e1 hk
      cases e1
      have ek := keyOf_rep rk hk
      subst ek
      subst s4
      obtain ⟨z1, z2⟩ := dput_of (k := kk) (rv.ex g2.g) (s5.ex g2.g)
      exact ⟨q, _, rfl, DPut.k (g2.h _ _ s3) (by simpa using pk.1), ok.nx _ pk.2 _ G2 _ (g1.trans g2).g ((rel1.grow g2).mut he rfl s1 (s' := .k _ _) ⟨_, upd_same, z1, z2⟩)⟩
    · exact pk.elim, ok.err rel⟩
/-- {} -/
def wDNew : Fx (List Key × List D) := fun _ P _ => P ([], [])
theorem pk_new : PK' B W X (.Dict [] [] pos) wDNew := pe_dnewK.imp fun σ H Q ⟨G, env, P, R, rel, hF, hP, hR⟩ => fun q nq => hP _ hF q [] G _ (Grow.own rel.gh nq) nq (Evl.fresh_back rel.gh nq) upd_same rfl .nil
/-- list(d), sorted(d) -/
def φListD : List D → (List D → Prop) → Prop
  | [.dic ks _], P => P (ks.map dOf)
  | _, _ => False
theorem repA_keys {G : Hp} : ∀ kvs : List (Key × V), RepA K G (kvs.map fun kv => kV kv.1) ((kvs.map (·.1)).map dOf)
  | [] => .nil
  | kv :: kvs => .cons (rep_key _) (repA_keys kvs)
theorem cdListD : ClD K (fun xs H Q => ∃ (a : Addr) (kvs : List (Key × V)), xs = [.ref a] ∧ Rd H a (.dK kvs) ∧ ∀ p, H p = none → Q (.ref p) (upd H p (.lst (kvs.map fun kv => kV kv.1)))) φListD := fun xs ds G H P Q e r p k => by
  unfold φListD at p
  split at p
  · obtain ⟨v, rfl, h⟩ := r.one_inv
    cases h with
    | dic h e1 r1 =>
      subst e1
      exact ⟨_, _, rfl, .inl (e _ _ h), fun t nt => k _ p _ _ _ _ (Grow.own e nt) nt (Evl.fresh_back e nt) upd_same (repA_keys _)⟩
  · exact p.elim
def txtKeys : List Key → Option (List Str)
  | [] => some []
  | .inr s :: ks => (txtKeys ks).map (s :: ·)
  | _ => none
theorem txtKeys_eq : ∀ {ks : List Key} {ss : List Str}, txtKeys ks = some ss → ks = ss.map Sum.inr
  | [], ss, h => by cases h; rfl
  | .inl _ :: _, ss, h => by cases h
  | .inr s :: ks, ss, h => by
    simp only [txtKeys] at h
    cases q : txtKeys ks with
    | none => rw [q] at h; cases h
    | some r => rw [q] at h; cases h; rw [txtKeys_eq q]; rfl
theorem txtKeys_map (ss : List Str) : txtKeys (ss.map Sum.inr) = some ss := by
  induction ss with
  | nil => rfl
  | cons s ss ih => simp only [List.map_cons, txtKeys, ih, Option.map_some]
@[irreducible] def φSortD : List D → (List D → Prop) → Prop
  | [.dic ks _], P => match txtKeys ks with
    | some ss => ss.length < 64 ∧ ∀ ys, ys.Perm ss → sortedS ys = true → P (ys.map D.str)
    | none => False
  | _, _ => False
theorem cdSortD : ClD K (fun xs H Q => ∃ (a : Addr) (kvs : List (Key × V)) (ks : List Str), xs = [.ref a] ∧ Rd H a (.dK kvs) ∧ kvs.map (·.1) = ks.map Sum.inr ∧ ks.length < 64 ∧ ∀ ys p, ys.Perm ks → sortedS ys = true → H p = none → Q (.ref p) (upd H p (.lst (ys.map V.str)))) φSortD := fun xs ds G H P Q e r p k => by
  unfold φSortD at p
  split at p
  · split at p
    · rename_i ss hs
      obtain ⟨v, rfl, h⟩ := r.one_inv
      cases h with
      | dic h e1 r1 => exact ⟨_, _, ss, rfl, .inl (e _ _ h), by rw [e1, txtKeys_eq hs], p.1, fun ys t h1 h2 nt => k _ (p.2 ys h1 h2) _ _ _ _ (Grow.own e nt) nt (Evl.fresh_back e nt) upd_same (repA_strs _)⟩
    · exact p.elim
  · exact p.elim
/-- lent for an expression that makes a new list of flat things -/
def wLendL (i : Nat) (f : Fx (List D)) : Fx (List D) := fun env P R => f (letGo env i) (fun ds => ds.all D.flat = true ∧ P ds) (fun _ => False)
theorem flats_rep {G G' : Hp} : ∀ {vs : List V} {ds : List D}, RepA K G vs ds → ds.all D.flat = true → RepA K G' vs ds
  | _, _, .nil, _ => .nil
  | _, _, .cons h r, q => by
    rw [List.all_cons, Bool.and_eq_true] at q
    exact .cons (flat_rep h q.1) (flats_rep r q.2)
theorem pl_lend {f : Fx (List D)} (i : Nat) (h : PL B W X e f) : PL B W X e (wLendL i f) := PE.imp h fun σ H Q ⟨G, env, P, R, rel, hF, hP, hR⟩ => by
  obtain ⟨G1, rel1, k⟩ := rel.lend i
  exact ⟨G1, _, _, _, rel1, hF, fun ds pd q vs G2 H2 g2 n1 n2 h1 rv => by
    refine hP ds pd.2 q vs (fun p => if H p = none then (if p = q then none else G2 p) else G p) H2 ?_ n1 ?_ h1 (flats_rep rv pd.1)
    · refine ⟨?_, g2.h, ?_, ?_⟩
      · intro p o h
        have : H p ≠ none := by rw [rel.gh _ _ h]; simp
        show (if H p = none then _ else G p) = some o
        rw [if_neg this]
        exact h
      · intro p o h
        have h' : (if H p = none then (if p = q then none else G2 p) else G p) = some o := h
        split at h'
        · split at h'
          · cases h'
          · exact g2.gh _ _ h'
        · exact g2.h _ _ (rel.gh _ _ h')
      · intro p h
        show (if H p = none then _ else G p) = G p
        rw [if_neg h]
    · show (if H q = none then (if q = q then none else G2 q) else G q) = none
      rw [if_pos n1, if_pos rfl], fun e q => q.elim⟩

/-! ### truth -/
def truD : D → Option Bool
  | .non => some false
  | .bl b => some b
  | .int i => some (i != 0)
  | .lst ds => some (!ds.isEmpty)
  | .tup ds => some (!ds.isEmpty)
  | .dic ks _ => some (!ks.isEmpty)
  | _ => none
def wTru (fa : Fx D) : Fx Bool := fun env P R => fa env (fun d => match truD d with | some b => P b | none => False) R
theorem emp_len {vs : List V} {ds : List D} {G : Hp} (r : RepA K G vs ds) : (!vs.isEmpty) = !ds.isEmpty := by cases r <;> rfl
theorem pq_tru (ha : PD B W X a fa) (he : ∀ whole, isTrue a X.env whole = (do let v ← whole; standAt a.pos; holding [v] (truthy v)) := by intro _; rfl) : PQ B W X a (wTru fa) :=
  (pt_truth ha he).imp fun σ H Q ⟨G, env, P, R, rel, hF, hP, hR⟩ => ⟨G, env, _, R, rel, hF, fun d pd v G1 H1 g1 rv => by
    cases d <;> first | exact pd.elim | skip
    · cases rv; exact ⟨false, rfl, hP _ pd G1 H1 g1⟩
    · cases rv; exact ⟨_, rfl, hP _ pd G1 H1 g1⟩
    · cases rv; exact ⟨_, rfl, hP _ pd G1 H1 g1⟩
    · obtain ⟨q, xs, rfl, h1, h2⟩ := rv.lst_inv
      exact ⟨_, .inl ⟨xs, SqL.of (g1.gh _ _ h1), rfl⟩, by rw [emp_len h2]; exact hP _ pd G1 H1 g1⟩
    · obtain ⟨q, xs, rfl, h1, h2⟩ := rv.tup_inv
      exact ⟨_, .inr (.inl ⟨xs, ext g1.gh h1, rfl⟩), by rw [emp_len h2]; exact hP _ pd G1 H1 g1⟩
    · cases rv with
      | dic h e r =>
        rename_i kvs
        refine ⟨_, .inr (.inr ⟨kvs, g1.gh _ _ h, rfl⟩), ?_⟩
        have : (!kvs.isEmpty) = !(kvs.map (·.1)).isEmpty := by cases kvs <;> rfl
        rw [this, e]
        exact hP _ pd G1 H1 g1, hR⟩
end
end Pd
set_option maxRecDepth 100000
set_option maxHeartbeats 4000000
/-! several targets; expressions that change one's own; texts -/
namespace Pd
open PySem PySem.Spec PyProof.Rows L2 Pre
section
variable {B : Bs} {W : WX} {X : Cx} {pos p : Pos} {a b c e tg iter : Expr} {fa fb fc : Fx D} {ga : Fx Bool} {es : List Expr} {fas : Fx (List D)} {K : PySem.W.Frag} {f g h : Fs} {st : Stmt} {rest : List Stmt}

/-! ### what a slot is given: a value, or a new thing of one's own -/
def SlNew (K : PySem.W.Frag) (H G' H' : Hp) (v : V) : Sl → Prop
  | .no => False
  | .v d => Rep K G' v d
  | s => ∃ q, v = .ref q ∧ H q = none ∧ G' q = none ∧ OwnAt K G' H' q s
def tSl' (K : PySem.W.Frag) (B : Bs) (W : WX) (F : Fx Sl) : TE := fun σ H Q => ∃ G env P R, Rel K B G σ H env ∧ F env P R ∧ (∀ s, P s → ∀ v G' H', Grow G H G' H' → SlNew K H G' H' v s → Q v H') ∧ ∀ e, R e → ErrTo K G H W σ e
def PSl (B : Bs) (W : WX) (X : Cx) (e : Expr) (F : Fx Sl) : Prop := PE X e (tSl' X.K B W F)
def wSv (fa : Fx D) : Fx Sl := fun env P R => fa env (fun d => P (.v d)) R
def wSl_ (f : Fx (List D)) : Fx Sl := fun env P R => f env (fun d => P (.l d)) R
def wSk (f : Fx (List Key × List D)) : Fx Sl := fun env P R => f env (fun d => P (.k d.1 d.2)) R
theorem psl_v (h : PD B W X e fa) : PSl B W X e (wSv fa) := PE.imp h fun σ H Q ⟨G, env, P, R, rel, hF, hP, hR⟩ => ⟨G, env, _, R, rel, hF, fun d pd v G' H' g r => hP _ pd v G' H' g r, hR⟩
theorem psl_l {f : Fx (List D)} (h : PL B W X e f) : PSl B W X e (wSl_ f) := PE.imp h fun σ H Q ⟨G, env, P, R, rel, hF, hP, hR⟩ => ⟨G, env, _, R, rel, hF, fun d pd q vs G' H' g n1 n2 h1 r => hP _ pd _ G' H' g ⟨q, rfl, n1, n2, vs, h1, r⟩, hR⟩
theorem psl_k {f : Fx (List Key × List D)} (h : PK' B W X e f) : PSl B W X e (wSk f) := PE.imp h fun σ H Q ⟨G, env, P, R, rel, hF, hP, hR⟩ => ⟨G, env, _, R, rel, hF, fun d pd q vs G' H' g n1 n2 h1 e r => hP _ pd _ G' H' g ⟨q, rfl, n1, n2, vs, h1, e, r⟩, hR⟩
theorem SlNew.some {H G' H' : Hp} {v : V} {s : Sl} (h : SlNew K H G' H' v s) : s ≠ .no := by
  rintro rfl
  exact h
theorem SlNew.grow {H G' H' G2 H2 : Hp} {v : V} {s : Sl} (h : SlNew K H G' H' v s) (g : Grow G' H' G2 H2) : SlNew K H G2 H2 v s := by
  cases s with
  | no => exact h
  | v d => exact (show Rep K G' v d from h).ex g.g
  | l ds => obtain ⟨q, e, n1, n2, oa⟩ := h; obtain ⟨o, ho⟩ := oa.some; exact ⟨q, e, n1, (g.nw q (by rw [ho]; simp)).trans n2, oa.mono g.g ((g.h _ _ ho).trans ho.symm)⟩
  | k ks ds => obtain ⟨q, e, n1, n2, oa⟩ := h; obtain ⟨o, ho⟩ := oa.some; exact ⟨q, e, n1, (g.nw q (by rw [ho]; simp)).trans n2, oa.mono g.g ((g.h _ _ ho).trans ho.symm)⟩
  | i q C ns ds => obtain ⟨q, e, n1, n2, oa⟩ := h; obtain ⟨o, ho⟩ := oa.some; exact ⟨q, e, n1, (g.nw q (by rw [ho]; simp)).trans n2, oa.mono g.g ((g.h _ _ ho).trans ho.symm)⟩
/-- the slot is given it -/
theorem Rel.sets {G H G' H' : Hp} {σ : L2.St} {env : En} {v : V} {s : Sl} (rel : Rel K B G' σ H' env) (nb : ∀ q, H q = none → B.H q = none) (fr : ∀ q, H q = none → ∀ (j : Nat) t, env[j]? = some t → t.own = true → σ[j]? ≠ some (some (.ref q))) (h : SlNew K H G' H' v s) (i : Nat) : Rel K B G' (σ.set i (some v)) H' (env.set i s) := by
  cases s with
  | no => exact h.elim
  | v d => exact rel.setv h i
  | l ds => obtain ⟨q, rfl, n1, n2, oa⟩ := h; exact rel.seto oa n2 (nb q n1) (fr q n1) i
  | k ks ds => obtain ⟨q, rfl, n1, n2, oa⟩ := h; exact rel.seto oa n2 (nb q n1) (fr q n1) i
  | i q C ns ds => obtain ⟨q, rfl, n1, n2, oa⟩ := h; exact rel.seto oa n2 (nb q n1) (fr q n1) i
/-- behind a store the younger things are still not held -/
theorem fresh_set {σ : L2.St} {env : En} {i : Nat} {v : V} {s : Sl} (q : Addr) (fr : ∀ (j : Nat) t, env[j]? = some t → t.own = true → σ[j]? ≠ some (some (.ref q))) (nv : s.own = true → v ≠ .ref q) : ∀ (j : Nat) t, (env.set i s)[j]? = some t → t.own = true → (σ.set i (some v))[j]? ≠ some (some (.ref q)) := fun j t h1 h2 h3 => by
  by_cases e : i = j
  · subst e
    have l1 := get_lt h1
    have l2 := get_lt h3
    rw [List.length_set] at l1 l2
    rw [List.getElem?_set_self l1] at h1
    rw [List.getElem?_set_self l2] at h3
    cases h1
    cases h3
    exact nv h2 rfl
  · rw [List.getElem?_set_ne e] at h1 h3
    exact fr j t h1 h2 h3
def wSetS (i : Nat) (fa : Fx Sl) : Fs := fun env P => fa env (fun s => P (.nx (env.set i s))) (fun e => P (.er env e))
theorem pds_setS {i : Nat} {x : Str} {pos' : Pos} {fs : Fx Sl} (hN : X.N.Nodup) (hi : X.N[i]? = some x) (hx : Loc X.env.scope x) (he : PSl B W X a fs) (hs : swapsWith a (some (.Name x pos')) pos.line X.env = pure false := by rfl) (hf : X.fn x = true ∨ X.env.scope.names.lookup x = some .local := by first | exact .inl rfl | exact .inr rfl | assumption) :
    PDs B W X (.Assign [.Name x pos'] a pos) (wSetS i fs) :=
  (ps_set hN hi hx he hs hf).imp fun Dn σ H ⟨G, env, P, rel, hF, ok⟩ => ⟨G, env, _, _, rel, hF, fun s ps v G1 H1 g1 hn => ok.nx _ ps _ G1 H1 g1.g ((rel.grow g1).sets (G := G) (H := H) (fun q n => rel.newB n) (fun q n => rel.fresh n) hn i), ok.err rel⟩
def wPar2 (i j : Nat) (fa fb : Fx Sl) : Fs := fun env P => fa env (fun x => fb env (fun y => P (.nx ((env.set i x).set j y))) (fun e => P (.er env e))) (fun e => P (.er env e))
theorem own_ref {H G' H' : Hp} {v : V} {s : Sl} (h : SlNew K H G' H' v s) (w : s.own = true) : ∃ q o, v = .ref q ∧ H' q = some o := by
  cases s with
  | no => exact h.elim
  | v d => cases w
  | l ds => obtain ⟨q, e, _, _, oa⟩ := h; obtain ⟨o, ho⟩ := oa.some; exact ⟨q, o, e, ho⟩
  | k ks ds => obtain ⟨q, e, _, _, oa⟩ := h; obtain ⟨o, ho⟩ := oa.some; exact ⟨q, o, e, ho⟩
  | i q C ns ds => obtain ⟨q, e, _, _, oa⟩ := h; obtain ⟨o, ho⟩ := oa.some; exact ⟨q, o, e, ho⟩
theorem pds_par2 {i j : Nat} {x y : Str} {px py pt : Pos} {kt k2 pt2} {fs ft : Fx Sl} (hc : X.calm = true) (hN : X.N.Nodup) (hi : X.N[i]? = some x) (hj : X.N[j]? = some y) (hij : i ≠ j)
    (hx : X.env.scope.names.lookup x = some .local) (hy : X.env.scope.names.lookup y = some .local) (ha : PSl B W X a fs) (hb : PSl B W X b ft)
    (hw : swappedStores [.Tuple [.Name x px, .Name y py] kt pt] (.Tuple [a, b] k2 pt2) X.env = pure (some [x, y]))
    (hs : swapsWithSole [.Tuple [.Name x px, .Name y py] kt pt] (.Tuple [a, b] k2 pt2) pos.line X.env = pure false := by rfl)
    (s1 : starEach [a, b] X.env = (false, eval a X.env) :: starEach [b] X.env := by rfl) (s2 : starEach [b] X.env = (false, eval b X.env) :: starEach [] X.env := by rfl) :
    PDs B W X (.Assign [.Tuple [.Name x px, .Name y py] kt pt] (.Tuple [a, b] k2 pt2) pos) (wPar2 i j fs ft) :=
  (ps_par hc hN hi hj hij hx hy (pa_cons ha (pa_cons hb pa_nil s2) s1) hw hs).imp fun Dn σ H ⟨G, env, P, rel, hF, ok⟩ =>
    ⟨G, env, _, _, rel, hF, fun s ps v G1 H1 g1 hn => ⟨G1, env, _, _, rel.grow g1, ps, fun t pt u G2 H2 g2 hm => ⟨v, u, rfl, by
      have rel2 := (rel.grow (g1.trans g2)).sets (G := G) (H := H) (fun q n => rel.newB n) (fun q n => rel.fresh n) (hn.grow g2) i
      refine ok.nx _ pt _ G2 H2 (g1.trans g2).g (rel2.sets (G := G1) (H := H1) (fun q n => (rel.grow g1).newB n) (fun q n => fresh_set q ((rel.grow g1).fresh n) fun w z => ?_) hm j)
      obtain ⟨q', o, e1, e2⟩ := own_ref hn w
      rw [z] at e1
      cases e1
      rw [n] at e2
      cases e2⟩, fun e p => ((ok.err rel) e p).grow g1⟩, ok.err rel⟩
def wPar3 (i j l : Nat) (fa fb fc : Fx Sl) : Fs := fun env P => fa env (fun x => fb env (fun y => fc env (fun z => P (.nx (((env.set i x).set j y).set l z))) (fun e => P (.er env e))) (fun e => P (.er env e))) (fun e => P (.er env e))
theorem pds_par3 {i j l : Nat} {x y z : Str} {px py pz pt : Pos} {kt k2 pt2} {fs ft fu : Fx Sl} (hc : X.calm = true) (hN : X.N.Nodup) (hi : X.N[i]? = some x) (hj : X.N[j]? = some y) (hl : X.N[l]? = some z) (hij : i ≠ j) (hil : i ≠ l) (hjl : j ≠ l)
    (hx : X.env.scope.names.lookup x = some .local) (hy : X.env.scope.names.lookup y = some .local) (hz : X.env.scope.names.lookup z = some .local) (ha : PSl B W X a fs) (hb : PSl B W X b ft) (hc3 : PSl B W X c fu)
    (hw : swappedStores [.Tuple [.Name x px, .Name y py, .Name z pz] kt pt] (.Tuple [a, b, c] k2 pt2) X.env = pure (some [x, y, z]))
    (hs : swapsWithSole [.Tuple [.Name x px, .Name y py, .Name z pz] kt pt] (.Tuple [a, b, c] k2 pt2) pos.line X.env = pure false := by rfl)
    (s1 : starEach [a, b, c] X.env = (false, eval a X.env) :: starEach [b, c] X.env := by rfl) (s2 : starEach [b, c] X.env = (false, eval b X.env) :: starEach [c] X.env := by rfl) (s3 : starEach [c] X.env = (false, eval c X.env) :: starEach [] X.env := by rfl) :
    PDs B W X (.Assign [.Tuple [.Name x px, .Name y py, .Name z pz] kt pt] (.Tuple [a, b, c] k2 pt2) pos) (wPar3 i j l fs ft fu) :=
  (ps_par3 hc hN hi hj hl hij hil hjl hx hy hz (pa_cons ha (pa_cons hb (pa_cons hc3 pa_nil s3) s2) s1) hw hs).imp fun Dn σ H ⟨G, env, P, rel, hF, ok⟩ =>
    ⟨G, env, _, _, rel, hF, fun s ps v G1 H1 g1 hn => ⟨G1, env, _, _, rel.grow g1, ps, fun t pt u G2 H2 g2 hm => ⟨G2, env, _, _, rel.grow (g1.trans g2), pt, fun r pr w G3 H3 g3 hr => ⟨v, u, w, rfl, by
      have g := (g1.trans g2).trans g3
      have rel3 := (rel.grow g).sets (G := G) (H := H) (fun q n => rel.newB n) (fun q n => rel.fresh n) (hn.grow (g2.trans g3)) i
      have key1 : ∀ q, H1 q = none → s.own = true → v ≠ .ref q := fun q n w' z' => by
        obtain ⟨q', o, e1, e2⟩ := own_ref hn w'
        rw [z'] at e1
        cases e1
        rw [n] at e2
        cases e2
      have key2 : ∀ q, H2 q = none → t.own = true → u ≠ .ref q := fun q n w' z' => by
        obtain ⟨q', o, e1, e2⟩ := own_ref hm w'
        rw [z'] at e1
        cases e1
        rw [n] at e2
        cases e2
      have rel4 := rel3.sets (G := G1) (H := H1) (fun q n => (rel.grow g1).newB n) (fun q n => fresh_set q ((rel.grow g1).fresh n) (key1 q n)) (hm.grow g3) j
      exact ok.nx _ pr _ G3 H3 g.g (rel4.sets (G := G2) (H := H2) (fun q n => (rel.grow (g1.trans g2)).newB n) (fun q n => fresh_set q (fresh_set q ((rel.grow (g1.trans g2)).fresh n) (key1 q (Evl.fresh_back g2.h n))) (key2 q n)) hr l)⟩,
      fun e p => ((ok.err rel) e p).grow (g1.trans g2)⟩, fun e p => ((ok.err rel) e p).grow g1⟩, ok.err rel⟩

/-! ### expressions that change one's own lists -/
abbrev Fe := En → (D → En → Prop) → (Err → Prop) → Prop
def tE (K : PySem.W.Frag) (B : Bs) (W : WX) (F : Fe) : TE := fun σ H Q => ∃ G env P R, Rel K B G σ H env ∧ F env P R ∧ (∀ d env', P d env' → ∀ v G' H', Ex G G' → Rel K B G' σ H' env' → Rep K G' v d → Q v H') ∧ ∀ e, R e → ErrTo K G H W σ e
def PDe (B : Bs) (W : WX) (X : Cx) (e : Expr) (F : Fe) : Prop := PE X e (tE X.K B W F)
def wPure (fa : Fx D) : Fe := fun env P R => fa env (fun d => P d env) R
theorem pde_pd (h : PD B W X e fa) : PDe B W X e (wPure fa) := PE.imp h fun σ H Q ⟨G, env, P, R, rel, hF, hP, hR⟩ => ⟨G, env, _, R, rel, hF, fun d pd v G' H' g r => hP _ _ pd v G' H' g.g (rel.grow g) r, hR⟩
/-- xs.pop() -/
@[irreducible] def wPop (i : Nat) : Fe := fun env P _ => match env[i]? with
  | some (.l ds) => match ds[ds.length - 1]? with
    | some d => P d (env.set i (.l ds.dropLast))
    | none => False
  | _ => False
theorem RepA.dropLast {G : Hp} {vs : List V} {ds : List D} (r : RepA K G vs ds) : RepA K G vs.dropLast ds.dropLast := by
  rw [List.dropLast_eq_take, List.dropLast_eq_take, r.len]
  exact r.take _
theorem pde_pop {i : Nat} (h : PE X e (tBM0 X.K "list" rPop (tVar i))) : PDe B W X e (wPop i) := h.imp fun σ H Q ⟨G, env, P, R, rel, hF, hP, hR⟩ => by
  unfold wPop at hF
  split at hF
  · rename_i ds he
    split at hF
    · rename_i d hd
      obtain ⟨q, vs, s1, s2, s3, s4⟩ := get_own rel he
      obtain ⟨v, hv, rv⟩ := s4.get hd
      exact ⟨.ref q, s1, .inl ⟨rfl, vs, SqL.of s3⟩, q, vs, v, rfl, rfl, s3, by rw [s4.len]; exact hv, hP _ _ hF v G _ ex0 (rel.mut he rfl s1 (s' := .l ds.dropLast) ⟨_, upd_same, s4.dropLast⟩) rv⟩
    · exact hF.elim
  · exact hF.elim
/-- xs.pop(k) -/
@[irreducible] def wPopAt (i : Nat) (fa : Fx D) : Fe := fun env P R => match env[i]? with
  | some (.l ds) => fa env (fun x => match x with
    | .int k => (-(2 ^ 63) ≤ k ∧ k < 2 ^ 63) ∧ match seqIndex? k ds.length with
      | some j => match ds[j]? with
        | some d => P d (env.set i (.l (ds.eraseIdx j)))
        | none => False
      | none => False
    | _ => False) R
  | _ => False
theorem RepA.erase {G : Hp} : ∀ {vs : List V} {ds : List D} (j : Nat), RepA K G vs ds → RepA K G (vs.eraseIdx j) (ds.eraseIdx j)
  | _, _, _, .nil => .nil
  | _, _, 0, .cons _ r => r
  | _, _, j + 1, .cons h r => .cons h (r.erase j)
theorem pde_popAt {i : Nat} (h : PE X e (tBM X.K "list" rPopAt (tVar i) (tCons (tP X.K B W fa) tNil))) : PDe B W X e (wPopAt i fa) := h.imp fun σ H Q ⟨G, env, P, R, rel, hF, hP, hR⟩ => by
  unfold wPopAt at hF
  split at hF
  · rename_i ds he
    obtain ⟨q, vs, s1, s2, s3, s4⟩ := get_own rel he
    refine ⟨.ref q, s1, .inl ⟨rfl, vs, SqL.of s3⟩, G, env, _, R, rel, hF, fun x px v G1 H1 g1 rv => ?_, hR⟩
    cases x <;> first | exact px.elim | skip
    cases rv
    obtain ⟨⟨b1, b2⟩, px⟩ := px
    split at px
    · rename_i j hj
      split at px
      · rename_i d hd
        have s4' := s4.ex g1.g
        obtain ⟨u, hu, ru⟩ := s4'.get hd
        exact ⟨q, vs, _, j, u, rfl, rfl, g1.h _ _ s3, b1, b2, by rw [s4.len]; exact hj, hu, hP _ _ px u G1 _ g1.g ((rel.grow g1).mut he rfl s1 (s' := .l (ds.eraseIdx j)) ⟨_, upd_same, s4'.erase j⟩) ru⟩
      · exact px.elim
    · exact px.elim
  · exact hF.elim
/-- an operator whose right side changes things -/
def wOpE (φ : D → D → (D → Prop) → Prop) (fa : Fx D) (fe : Fe) : Fe := fun env P R => fa env (fun x => fe env (fun y env' => φ x y (fun z => P z env')) R) R
theorem tE_of {K : PySem.W.Frag} {fe : Fe} {r : R2} {φ : D → D → (D → Prop) → Prop} (hd : OpD K r φ) {σ : L2.St} {H : Hp} {Q : VK} (h : tE K B W (wOpE φ fa fe) σ H Q) : tOp r (tP K B W fa) (tE K B W fe) σ H Q := by
  obtain ⟨G, env, P, R, rel, hF, hP, hR⟩ := h
  exact ⟨G, env, _, R, rel, hF, fun dx px x G1 H1 g1 rx => ⟨G1, env, _, R, rel.grow g1, px, fun dy env' py y G2 H2 x2 rel2 ry => hd x y dx dy G2 H2 _ Q rel2.gh (rx.ex x2) ry py fun d pd v G3 H3 g3 rv => hP _ _ pd v G3 H3 ((g1.g.trans x2).trans g3.g) (rel2.grow g3) rv, fun e re => (hR e re).grow g1⟩, hR⟩
theorem pde_op {op : Operator} {r : R2} {φ : D → D → (D → Prop) → Prop} {fe : Fe} (ho : OpR X (binaryOp op) r) (hd : OpD X.K r φ) (ha : PD B W X a fa) (hb : PDe B W X b fe) : PDe B W X (.BinOp a op b pos) (wOpE φ fa fe) := (pe_op ho ha hb).imp fun _ _ _ q => tE_of hd q
/-- a subscript of such -/
def wIxE (φ : D → D → (D → Prop) → Prop) (fe : Fe) (fb : Fx D) : Fe := fun env P R => fe env (fun x env' => fb env' (fun y => φ x y (fun z => P z env')) (fun _ => False)) R
theorem pde_ix {r : R2} {φ : D → D → (D → Prop) → Prop} {fe : Fe} (hi : IxR X r) (hd : OpD X.K r φ) (ha : PDe B W X a fe) (hb : PD B W X b fb) (hs : PlainIx b) : PDe B W X (.Subscript a b pos) (wIxE φ fe fb) :=
  (pe_ix hi ha hb hs).imp fun σ H Q ⟨G, env, P, R, rel, hF, hP, hR⟩ => ⟨G, env, _, R, rel, hF, fun dx env' px x G1 H1 x1 rel1 rx => ⟨G1, env', _, _, rel1, px, fun dy py y G2 H2 g2 ry => hd x y dx dy G2 H2 _ Q g2.gh (rx.ex g2.g) ry py fun d pd v G3 H3 g3 rv => hP _ _ pd v G3 H3 (x1.trans (g2.trans g3).g) (rel1.grow (g2.trans g3)) rv, fun e z => z.elim⟩, hR⟩
def wSetE (i : Nat) (fe : Fe) : Fs := fun env P => fe env (fun d env' => P (.nx (env'.set i (.v d)))) (fun e => P (.er env e))
theorem pds_setE {i : Nat} {x : Str} {pos' : Pos} {fe : Fe} (hN : X.N.Nodup) (hi : X.N[i]? = some x) (hx : Loc X.env.scope x) (he : PDe B W X a fe) (hs : swapsWith a (some (.Name x pos')) pos.line X.env = pure false := by rfl) (hf : X.fn x = true ∨ X.env.scope.names.lookup x = some .local := by first | exact .inl rfl | exact .inr rfl | assumption) :
    PDs B W X (.Assign [.Name x pos'] a pos) (wSetE i fe) :=
  (ps_set hN hi hx he hs hf).imp fun Dn σ H ⟨G, env, P, rel, hF, ok⟩ => ⟨G, env, _, _, rel, hF, fun d env' pd v G1 H1 x1 rel1 rv => ok.nx _ pd _ G1 H1 x1 (rel1.setv rv i), ok.err rel⟩
/-- xs.append(e) with such an e -/
def wAppE (i : Nat) (fe : Fe) : Fs := fun env P => (∃ ds, env[i]? = some (.l ds)) ∧ fe env (fun d env' => match env'[i]? with
  | some (.l ds) => ds.length < sizeLine ∧ P (.nx (env'.set i (.l (ds ++ [d]))))
  | _ => False) (fun e => P (.er env e))
theorem pds_appE {i : Nat} {fe : Fe} (h : PS X st (tDrop (tBM X.K "list" rAppend (tVar i) (tCons (tE X.K B W fe) tNil)))) : PDs B W X st (wAppE i fe) := h.imp fun Dn σ H ⟨G, env, P, rel, ⟨⟨ds0, he0⟩, hF⟩, ok⟩ => by
  obtain ⟨q, vs, s1, s2, s3, s4⟩ := get_own rel he0
  refine ⟨.ref q, s1, .inl ⟨rfl, vs, SqL.of s3⟩, G, env, _, _, rel, hF, fun d env' pd v G1 H1 x1 rel1 rv => ?_, ok.err rel⟩
  split at pd
  · rename_i ds he
    obtain ⟨q', ws, t1, t2, t3, t4⟩ := get_own rel1 he
    rw [s1] at t1
    cases t1
    exact ⟨q, ws, v, rfl, rfl, t3, by rw [t4.len]; exact pd.1, ok.nx _ pd.2 _ G1 _ x1 (rel1.mut he rfl s1 (s' := .l (ds ++ [d])) ⟨_, upd_same, t4.app (.one rv)⟩)⟩
  · exact pd.elim

/-! ### texts -/
@[irreducible] def φJoin (x y : D) (P : D → Prop) : Prop := match x, y.items with
  | .str s, some ds => match allS ds with
    | some ys => (ys.map (·.length)).sum + ys.length * s.length ≤ 16777216 ∧ P (.str (Txt.join s ys))
    | none => False
  | _, _ => False
def wJoin (fa fb : Fx D) : Fx D := fun env P R => fa env (fun x => (∃ s, x = .str s) ∧ fb env (fun y => φJoin x y P) R) R
theorem pd_join {e2 : Expr} (h : PE X e2 (tM1 (fun x xs H Q => ∃ a p, ∃ ys : List Str, x = .str a ∧ xs = [.ref p] ∧ (SqL X.K H p (ys.map V.str) ∨ SqT X.K H p (ys.map V.str)) ∧ (ys.map (·.length)).sum + ys.length * a.length ≤ 16777216 ∧ Q (.str (Txt.join a ys)) H) (tP X.K B W fa) (tP X.K B W fb))) : PD B W X e2 (wJoin fa fb) :=
  h.imp fun σ H Q ⟨G, env, P, R, rel, hF, hP, hR⟩ => ⟨G, env, _, R, rel, hF, fun dx px x G1 H1 g1 rx => by
    obtain ⟨⟨s, rfl⟩, px⟩ := px
    cases rx
    refine ⟨⟨_, rfl⟩, G1, env, _, R, rel.grow g1, px, fun dy py y G2 H2 g2 ry => ?_, fun e re => (hR e re).grow g1⟩
    unfold φJoin at py
    split at py
    · rename_i s' ds e1 hd
      cases e1
      split at py
      · rename_i ys hy
        obtain ⟨q, vs, rfl, hs, rs⟩ := items_inv ry hd
        rw [allS_eq hy] at rs
        rw [rs.strs] at hs
        exact ⟨_, q, ys, rfl, rfl, sq_ex g2.gh hs, py.1, hP _ py.2 _ G2 H2 (g1.trans g2) (.str _)⟩
      · exact py.elim
    · exact py.elim, hR⟩
def repT (x : Str) (n : Int) : Str := if n < 1 then Str.empty else if n = 1 ∨ x.length = 0 then x else Lg.repS x n.toNat
theorem op_repT : OpR X (binaryOp .Mult) (fun x y H Q => ∃ (a : Str) (n : Int), x = .str a ∧ y = .int n ∧ -5000 ≤ n ∧ n ≤ 5000 ∧ a.length ≤ 1000 ∧ Q (.str (repT a n)) H) := by
  intro pins s σ H x y v u Q I rx ry h
  obtain ⟨a, n, rfl, rfl, n2, n5, a2, q⟩ := h
  obtain ⟨t, rfl⟩ := rx
  obtain ⟨t2, rfl⟩ := ry
  refine PySem.P.mul_str (by rw [Bool.or_eq_false_iff]; exact ⟨decide_eq_false (by omega), decide_eq_false (by omega)⟩) (fun h1 h2 => ?_) (fun h1 h2 => ?_) ?_
  · have : (1000 : Int) ≤ (2 ^ 63 - 1) / n := by
      refine (Int.le_ediv_iff_mul_le (by omega)).mpr ?_
      omega
    omega
  · have le : a.length * n.toNat ≤ 5000000 := Nat.le_trans (Nat.mul_le_mul a2 (show n.toNat ≤ 5000 by omega)) (by decide)
    exact decide_eq_false (by rw [sizeLine_eq]; omega)
  · unfold repT at q
    by_cases h1 : n < 1
    · rw [if_pos h1] at q ⊢
      exact ⟨by decide, .str _, H, I.tok _, ⟨_, rfl⟩, q⟩
    · rw [if_neg h1] at q ⊢
      by_cases h2 : n = 1 ∨ a.length = 0
      · have hb : (n == 1 || a.length == 0) = true := by
          rcases h2 with h2 | h2
          · rw [h2]; rfl
          · simp [h2]
        rw [if_pos h2] at q
        rw [if_pos hb]
        exact ⟨.str _, H, I, ⟨_, rfl⟩, q⟩
      · have hb : ¬ (n == 1 || a.length == 0) = true := by
          rw [not_or] at h2
          simp [h2.1, h2.2]
        rw [if_neg h2] at q
        rw [if_neg hb]
        have le : a.length * n.toNat ≤ 5000000 := Nat.le_trans (Nat.mul_le_mul a2 (show n.toNat ≤ 5000 by omega)) (by decide)
        exact ⟨by show (Lg.repS a n.toNat).length ≤ sizeLine; rw [Lg.repS_len, sizeLine_eq]; omega, .str (Lg.repS a n.toNat), H, I.tok _, ⟨_, rfl⟩, q⟩
def φRepT : D → D → (D → Prop) → Prop
  | .str a, .int n, P => (-5000 ≤ n ∧ n ≤ 5000 ∧ a.length ≤ 1000) ∧ P (.str (repT a n))
  | _, _, _ => False
theorem odRepT : OpD K (fun x y H Q => ∃ (a : Str) (n : Int), x = .str a ∧ y = .int n ∧ -5000 ≤ n ∧ n ≤ 5000 ∧ a.length ≤ 1000 ∧ Q (.str (repT a n)) H) φRepT := fun x y dx dy G H P Q e rx ry p k => by
  cases dx <;> first | exact p.elim | skip
  cases dy <;> first | exact p.elim | skip
  cases rx
  cases ry
  exact ⟨_, _, rfl, rfl, p.1.1, p.1.2.1, p.1.2.2, k _ p.2 _ G H (Grow.refl e) (.str _)⟩
end
end Pd
set_option maxRecDepth 100000
set_option maxHeartbeats 4000000
/-! operators for all kinds at once; a new list hidden; walks over lists, tuples, texts -/
namespace Pd
open PySem PySem.Spec PyProof.Rows L2 Pre

def rOr (r r' : R2) : R2 := fun x y H Q => r x y H Q ∨ r' x y H Q
theorem opOr {X : Cx} {f : Value → Value → Sem Value} {r r' : R2} (h : OpR X f r) (h' : OpR X f r') : OpR X f (rOr r r') := fun pins s σ H x y v u Q I rx ry q => q.elim (h pins s σ H x y v u Q I rx ry) (h' pins s σ H x y v u Q I rx ry)
section
variable {K : PySem.W.Frag}
abbrev Φ2 := D → D → (D → Prop) → Prop
theorem odOr {r r' : R2} {φ φ' ψ : Φ2} (h : OpD K r φ) (h' : OpD K r' φ') (k : ∀ x y P, ψ x y P → φ x y P ∨ φ' x y P) : OpD K (rOr r r') ψ := fun x y dx dy G H P Q e rx ry p kk => (k _ _ _ p).elim (fun p => .inl (h x y dx dy G H P Q e rx ry p kk)) fun p => .inr (h' x y dx dy G H P Q e rx ry p kk)
/-! ### + -/
def φCatV : Φ2
  | .lst a, .lst b, P => a.length + b.length ≤ sizeLine ∧ P (.lst (a ++ b))
  | _, _, _ => False
theorem odCatV : OpD K rCat φCatV := fun x y dx dy G H P Q e rx ry p k => by
  cases dx <;> first | exact p.elim | skip
  cases dy <;> first | exact p.elim | skip
  obtain ⟨a, xs, rfl, hx, rx⟩ := rx.lst_inv
  obtain ⟨b, ys, rfl, hy, ry⟩ := ry.lst_inv
  exact ⟨a, b, xs, ys, rfl, rfl, e _ _ hx, e _ _ hy, by rw [rx.len, ry.len]; exact p.1, fun t nt => k _ p.2 _ _ _ (Grow.new e nt) (.lst upd_same ((rx.app ry).ex (exn (Evl.fresh_back e nt))))⟩
def φAdd : Φ2
  | .int i, .int j, P => P (.int (i + j))
  | .str i, .str j, P => i.length + j.length ≤ sizeLine ∧ P (.str (i ++ j))
  | .tup a, .tup b, P => a.length + b.length ≤ sizeLine ∧ P (.tup (a ++ b))
  | .lst a, .lst b, P => a.length + b.length ≤ sizeLine ∧ P (.lst (a ++ b))
  | _, _, _ => False
def rAddU (K : PySem.W.Frag) : R2 := rOr (rI0 fun i j => .int (i + j)) (rOr (fun x y H Q => ∃ i j, x = .str i ∧ y = .str j ∧ i.length + j.length ≤ sizeLine ∧ Q (.str (i ++ j)) H) (rOr (rCatA K) rCat))
theorem op_addU {X : Cx} : OpR X (binaryOp .Add) (rAddU X.K) := opOr op_add (opOr op_add_str (opOr op_catA op_cat))
theorem odAddU : OpD K (rAddU K) φAdd := by
  refine odOr (φ := φI0 fun i j => .int (i + j)) (φ' := fun x y P => φAddS x y P ∨ φCatT x y P ∨ φCatV x y P) odI0 (odOr (φ' := fun x y P => φCatT x y P ∨ φCatV x y P) odAddS (odOr odCatT odCatV fun x y P h => h) fun x y P h => h) ?_
  intro x y P p
  cases x <;> first | exact p.elim | skip
  all_goals cases y <;> first | exact p.elim | skip
  · exact .inl p
  · exact .inr (.inl p)
  · exact .inr (.inr (.inr p))
  · exact .inr (.inr (.inl p))
/-! ### * -/
def φRepL : Φ2
  | .lst a, .int k, P => (-(2 ^ 63) ≤ k ∧ k < 2 ^ 63 ∧ a.length * k.toNat ≤ sizeLine) ∧ P (.lst (List.replicate k.toNat a).flatten)
  | _, _, _ => False
theorem repA_rep {G : Hp} {xs : List V} {ds : List D} (r : RepA K G xs ds) : ∀ n : Nat, RepA K G (List.replicate n xs).flatten (List.replicate n ds).flatten
  | 0 => .nil
  | n + 1 => by
    rw [List.replicate_succ, List.replicate_succ, List.flatten_cons, List.flatten_cons]
    exact r.app (repA_rep r n)
theorem odRepL : OpD K rRep φRepL := fun x y dx dy G H P Q e rx ry p k => by
  cases dx <;> first | exact p.elim | skip
  cases dy <;> first | exact p.elim | skip
  obtain ⟨a, xs, rfl, hx, rx⟩ := rx.lst_inv
  cases ry
  exact ⟨a, _, xs, rfl, rfl, e _ _ hx, p.1.1, p.1.2.1, by rw [rx.len]; exact p.1.2.2, fun t nt => k _ p.2 _ _ _ (Grow.new e nt) (.lst upd_same ((repA_rep rx _).ex (exn (Evl.fresh_back e nt))))⟩
theorem op_repI {X : Cx} : OpR X (binaryOp .Mult) (fun x y H Q => ∃ (a : Str) (n : Int), x = .int n ∧ y = .str a ∧ -5000 ≤ n ∧ n ≤ 5000 ∧ a.length ≤ 1000 ∧ Q (.str (repT a n)) H) := by
  intro pins s σ H x y v u Q I rx ry h
  obtain ⟨a, n, rfl, rfl, n2, n5, a2, q⟩ := h
  obtain ⟨t, rfl⟩ := rx
  obtain ⟨t2, rfl⟩ := ry
  refine mul_int_str (by rw [Bool.or_eq_false_iff]; exact ⟨decide_eq_false (by omega), decide_eq_false (by omega)⟩) (fun h1 h2 => ?_) (fun h1 h2 => ?_) ?_
  · have : (1000 : Int) ≤ (2 ^ 63 - 1) / n := by
      refine (Int.le_ediv_iff_mul_le (by omega)).mpr ?_
      omega
    omega
  · have le : a.length * n.toNat ≤ 5000000 := Nat.le_trans (Nat.mul_le_mul a2 (show n.toNat ≤ 5000 by omega)) (by decide)
    exact decide_eq_false (by rw [sizeLine_eq]; omega)
  · unfold repT at q
    by_cases h1 : n < 1
    · rw [if_pos h1] at q ⊢
      exact ⟨by decide, .str _, H, I.tok _, ⟨_, rfl⟩, q⟩
    · rw [if_neg h1] at q ⊢
      by_cases h2 : n = 1 ∨ a.length = 0
      · have hb : (n == 1 || a.length == 0) = true := by
          rcases h2 with h2 | h2
          · rw [h2]; rfl
          · simp [h2]
        rw [if_pos h2] at q
        rw [if_pos hb]
        exact ⟨.str _, H, I, ⟨_, rfl⟩, q⟩
      · have hb : ¬ (n == 1 || a.length == 0) = true := by
          rw [not_or] at h2
          simp [h2.1, h2.2]
        rw [if_neg h2] at q
        rw [if_neg hb]
        have le : a.length * n.toNat ≤ 5000000 := Nat.le_trans (Nat.mul_le_mul a2 (show n.toNat ≤ 5000 by omega)) (by decide)
        exact ⟨by show (Lg.repS a n.toNat).length ≤ sizeLine; rw [Lg.repS_len, sizeLine_eq]; omega, .str (Lg.repS a n.toNat), H, I.tok _, ⟨_, rfl⟩, q⟩
def φRepI : Φ2
  | .int n, .str a, P => (-5000 ≤ n ∧ n ≤ 5000 ∧ a.length ≤ 1000) ∧ P (.str (repT a n))
  | _, _, _ => False
theorem odRepI : OpD K (fun x y H Q => ∃ (a : Str) (n : Int), x = .int n ∧ y = .str a ∧ -5000 ≤ n ∧ n ≤ 5000 ∧ a.length ≤ 1000 ∧ Q (.str (repT a n)) H) φRepI := fun x y dx dy G H P Q e rx ry p k => by
  cases dx <;> first | exact p.elim | skip
  cases dy <;> first | exact p.elim | skip
  cases rx
  cases ry
  exact ⟨_, _, rfl, rfl, p.1.1, p.1.2.1, p.1.2.2, k _ p.2 _ G H (Grow.refl e) (.str _)⟩
def φMul : Φ2
  | .int i, .int j, P => CMulW i j ∧ P (.int (i * j))
  | .str a, .int n, P => (-5000 ≤ n ∧ n ≤ 5000 ∧ a.length ≤ 1000) ∧ P (.str (repT a n))
  | .int n, .str a, P => (-5000 ≤ n ∧ n ≤ 5000 ∧ a.length ≤ 1000) ∧ P (.str (repT a n))
  | .lst a, .int k, P => (-(2 ^ 63) ≤ k ∧ k < 2 ^ 63 ∧ a.length * k.toNat ≤ sizeLine) ∧ P (.lst (List.replicate k.toNat a).flatten)
  | _, _, _ => False
def rMulU : R2 := rOr (rI CMulW fun i j => .int (i * j)) (rOr (fun x y H Q => ∃ (a : Str) (n : Int), x = .str a ∧ y = .int n ∧ -5000 ≤ n ∧ n ≤ 5000 ∧ a.length ≤ 1000 ∧ Q (.str (repT a n)) H) (rOr (fun x y H Q => ∃ (a : Str) (n : Int), x = .int n ∧ y = .str a ∧ -5000 ≤ n ∧ n ≤ 5000 ∧ a.length ≤ 1000 ∧ Q (.str (repT a n)) H) rRep))
theorem op_mulU {X : Cx} : OpR X (binaryOp .Mult) rMulU := opOr op_mulW (opOr op_repT (opOr op_repI op_rep))
theorem odMulU : OpD K rMulU φMul := by
  refine odOr (φ := φI CMulW fun i j => .int (i * j)) (φ' := fun x y P => φRepT x y P ∨ φRepI x y P ∨ φRepL x y P) odI (odOr (φ' := fun x y P => φRepI x y P ∨ φRepL x y P) odRepT (odOr odRepI odRepL fun x y P h => h) fun x y P h => h) ?_
  intro x y P p
  cases x <;> first | exact p.elim | skip
  all_goals cases y <;> first | exact p.elim | skip
  · exact .inl p
  · exact .inr (.inr (.inl p))
  · exact .inr (.inl p)
  · exact .inr (.inr (.inr p))
def φSub : Φ2 := φI0 fun i j => .int (i - j)
def φFdv : Φ2 := φI CDivG fun i j => .int (i.fdiv j)
def φMod : Φ2 := φI (fun _ j => j ≠ 0) fun i j => .int (i.fmod j)
def φPow : Φ2 := φI CPow fun i j => .int (i ^ j.toNat)
theorem odSubU : OpD K (rI0 fun i j => .int (i - j)) φSub := odI0
theorem odFdvU : OpD K (rI CDivG fun i j => .int (i.fdiv j)) φFdv := odI
theorem odModU : OpD K (rI (fun _ j => j ≠ 0) fun i j => .int (i.fmod j)) φMod := odI
theorem odPowU : OpD K (rI CPow fun i j => .int (i ^ j.toNat)) φPow := odI
/-! ### order -/
def φOrd (gi : Int → Int → Bool) (gs : Str → Str → Bool) (neg swap : Bool) : Φ2
  | .int i, .int j, P => P (.bl (gi i j))
  | .str i, .str j, P => P (.bl (gs i j))
  | x, y, P => φLtD neg swap x y P
def sLt (i j : Str) : Bool := decide (i.cps.toList < j.cps.toList)
def rOrd (K : PySem.W.Frag) (gi : Int → Int → Bool) (gs : Str → Str → Bool) (neg swap : Bool) : R2 := rOr (rI0 fun i j => .bl (gi i j)) (rOr (fun x y H Q => ∃ i j, x = .str i ∧ y = .str j ∧ Q (.bl (gs i j)) H) (rLtD K neg swap))
theorem odOrd {gi : Int → Int → Bool} {gs : Str → Str → Bool} {neg swap : Bool} : OpD K (rOrd K gi gs neg swap) (φOrd gi gs neg swap) := by
  refine odOr (φ := φI0 fun i j => .bl (gi i j)) (φ' := fun x y P => φSS gs x y P ∨ φLtD neg swap x y P) odB0 (odOr odSS odLtD fun x y P h => h) ?_
  intro x y P p
  unfold φOrd at p
  split at p
  · exact .inl p
  · exact .inr (.inl p)
  · exact .inr (.inr p)
theorem op_ltU {X : Cx} (hu : X.A.units + 64 < cLine) : OpR X (compareOp .Lt) (rOrd X.K (fun i j => decide (i < j)) sLt false false) := opOr op_lt (opOr op_lt_str (op_ltData hu))
theorem op_leU {X : Cx} (hu : X.A.units + 64 < cLine) : OpR X (compareOp .LtE) (rOrd X.K (fun i j => decide (i ≤ j)) (fun i j => !sLt j i) true true) := opOr op_le (opOr op_le_str (op_leData hu))
theorem op_gtU {X : Cx} (hu : X.A.units + 64 < cLine) : OpR X (compareOp .Gt) (rOrd X.K (fun i j => decide (j < i)) (fun i j => sLt j i) false true) := opOr op_gt (opOr op_gt_str (op_gtData hu))
theorem op_geU {X : Cx} (hu : X.A.units + 64 < cLine) : OpR X (compareOp .GtE) (rOrd X.K (fun i j => decide (j ≤ i)) (fun i j => !sLt i j) true false) := opOr op_ge (opOr op_ge_str (op_geData hu))
abbrev φLtU : Φ2 := φOrd (fun i j => decide (i < j)) sLt false false
abbrev φLeU : Φ2 := φOrd (fun i j => decide (i ≤ j)) (fun i j => !sLt j i) true true
abbrev φGtU : Φ2 := φOrd (fun i j => decide (j < i)) (fun i j => sLt j i) false true
abbrev φGeU : Φ2 := φOrd (fun i j => decide (j ≤ i)) (fun i j => !sLt i j) true false
/-! ### ==, in -/
@[irreducible] def φEqU (neg : Bool) : Φ2 := fun x y P => match scalD x y with
  | true => P (.bl (if neg then !flatEq x y else flatEq x y))
  | false => φEqD neg x y P
theorem odEqU : OpD K (rOr rEq (rEqD K)) (φEqU false) := odOr odEq odEqD fun x y P h => by
  unfold φEqU at h
  split at h
  · rename_i hs
    exact .inl ⟨hs, h⟩
  · exact .inr h
theorem odNeU : OpD K (rOr rNe (rNeD K)) (φEqU true) := odOr odNe odNeD fun x y P h => by
  unfold φEqU at h
  split at h
  · rename_i hs
    exact .inl ⟨hs, h⟩
  · exact .inr h
theorem op_eqU {X : Cx} (hu : X.A.units + 64 < cLine) : OpR X (compareOp .Eq) (rOr rEq (rEqD X.K)) := opOr op_eq (op_eqD hu)
theorem op_neU {X : Cx} (hu : X.A.units + 64 < cLine) : OpR X (compareOp .NotEq) (rOr rNe (rNeD X.K)) := opOr op_ne (op_neD hu)
def φInD (neg : Bool) (x y : D) (P : D → Prop) : Prop := match toPy x, toPy y with
  | some p, some (.list ps) => SeqAt.shaped p = true ∧ SeqAt.shaped (.list ps) = true ∧ P (.bl (if neg then !(ps.any fun z => PyData.eqv z p) else ps.any fun z => PyData.eqv z p))
  | _, _ => False
theorem odInD : OpD K (rInD K) (φInD false) := fun x y dx dy G H P Q e rx ry p k => by
  unfold φInD at p
  split at p
  · rename_i a b h1 h2
    exact ⟨a, b, dp_ex e (rx.dp h1), dp_ex e (ry.dp h2), p.1, p.2.1, k _ p.2.2 _ G H (Grow.refl e) (.bl _)⟩
  · exact p.elim
theorem odNotInD : OpD K (rNotInD K) (φInD true) := fun x y dx dy G H P Q e rx ry p k => by
  unfold φInD at p
  split at p
  · rename_i a b h1 h2
    exact ⟨a, b, dp_ex e (rx.dp h1), dp_ex e (ry.dp h2), p.1, p.2.1, k _ p.2.2 _ G H (Grow.refl e) (.bl _)⟩
  · exact p.elim
@[irreducible] def φInU (neg : Bool) : Φ2 := fun x y P => match y with
  | .str t => φInS neg x (.str t) P
  | y => match x.flat with
    | true => φIn neg x y P
    | false => φInD neg x y P
theorem odInU : OpD K (rOr (fun x y H Q => ∃ (c : Nat) (z : Str), x = .str ⟨#[c]⟩ ∧ y = .str z ∧ Q (.bl (decide (c ∈ z.cps.toList))) H) (rOr (rIn K false) (rInD K))) (φInU false) := by
  refine odOr (φ' := fun x y P => φIn false x y P ∨ φInD false x y P) odInS (odOr odIn odInD fun x y P h => h) fun x y P h => ?_
  unfold φInU at h
  split at h
  · exact .inl h
  · split at h
    · exact .inr (.inl h)
    · exact .inr (.inr h)
theorem odNotInU : OpD K (rOr (fun x y H Q => ∃ (c : Nat) (z : Str), x = .str ⟨#[c]⟩ ∧ y = .str z ∧ Q (.bl (!decide (c ∈ z.cps.toList))) H) (rOr (rIn K true) (rNotInD K))) (φInU true) := by
  refine odOr (φ' := fun x y P => φIn true x y P ∨ φInD true x y P) odNotInS (odOr odIn odNotInD fun x y P h => h) fun x y P h => ?_
  unfold φInU at h
  split at h
  · exact .inl h
  · split at h
    · exact .inr (.inl h)
    · exact .inr (.inr h)
theorem op_inU {X : Cx} (hu : X.A.units + 65 < cLine) : OpR X (compareOp .In) (rOr (fun x y H Q => ∃ (c : Nat) (z : Str), x = .str ⟨#[c]⟩ ∧ y = .str z ∧ Q (.bl (decide (c ∈ z.cps.toList))) H) (rOr (rIn X.K false) (rInD X.K))) := opOr op_in_sign (opOr op_in_seq (op_inD hu))
theorem op_notInU {X : Cx} (hu : X.A.units + 65 < cLine) : OpR X (compareOp .NotIn) (rOr (fun x y H Q => ∃ (c : Nat) (z : Str), x = .str ⟨#[c]⟩ ∧ y = .str z ∧ Q (.bl (!decide (c ∈ z.cps.toList))) H) (rOr (rIn X.K true) (rNotInD X.K))) := opOr op_notIn_sign (opOr op_notIn_seq (op_notInD hu))
/-! ### subscripts, slices -/
theorem ixOr {X : Cx} {r r' : R2} (h : IxR X r) (h' : IxR X r') : IxR X (rOr r r') := by
  intro value slice pins s σ H x y v u Q I rx ry q hs
  exact q.elim (fun q => h value slice pins s σ H x y v u Q I rx ry q hs) fun q => h' value slice pins s σ H x y v u Q I rx ry q hs
@[irreducible] def φIxU : Φ2 := fun x y P => match x with
  | .str s => φIxS (.str s) y P
  | x => φIx x y P
theorem odIxU : OpD K (rOr (rIx K) rIxS) φIxU := odOr odIx odIxS fun x y P h => by
  unfold φIxU at h
  split at h
  · exact .inr h
  · exact .inl h
theorem ix_U {X : Cx} : IxR X (rOr (rIx X.K) rIxS) := ixOr ix_seq ix_str
abbrev RS := V → Option Int → Option Int → Hp → VK → Prop
abbrev ΦS := D → Option Int → Option Int → (D → Prop) → Prop
def rOrS (r r' : RS) : RS := fun x l u H Q => r x l u H Q ∨ r' x l u H Q
theorem slOr {X : Cx} {r r' : RS} (h : L2.SlR X r) (h' : L2.SlR X r') : L2.SlR X (rOrS r r') := h.or h'
theorem sdOr {r r' : RS} {φ φ' ψ : ΦS} (h : SlD K r φ) (h' : SlD K r' φ') (k : ∀ x l u P, ψ x l u P → φ x l u P ∨ φ' x l u P) : SlD K (rOrS r r') ψ := fun x dx l u G H P Q e rx p kk => (k _ _ _ _ p).elim (fun p => .inl (h x dx l u G H P Q e rx p kk)) fun p => .inr (h' x dx l u G H P Q e rx p kk)
def φSlL : ΦS
  | .lst ds, l, u, P => P (.lst (cutD ds l u))
  | _, _, _, _ => False
theorem sdL : SlD K (rSlL K) φSlL := fun x dx l u G H P Q e rx p k => by
  cases dx <;> first | exact p.elim | skip
  obtain ⟨a, xs, rfl, hs, rs⟩ := rx.lst_inv
  exact ⟨a, xs, rfl, SqL.of (e _ _ hs), fun t nt => k _ p _ _ _ (Grow.new e nt) (.lst upd_same (rs.cut.ex (exn (Evl.fresh_back e nt))))⟩
def φSlU : ΦS
  | .lst ds, l, u, P => P (.lst (cutD ds l u))
  | .tup ds, l, u, P => P (.tup (cutD ds l u))
  | .str z, l, u, P => z.length ≤ sizeLine ∧ P (.str (cutS z l u))
  | _, _, _, _ => False
theorem sdU : SlD K (rOrS (rSlA K) (rOrS rSlS (rSlL K))) φSlU := by
  refine sdOr (φ' := fun x l u P => φSlS x l u P ∨ φSlL x l u P) sdT (sdOr sdS sdL fun x l u P h => h) fun x l u P p => ?_
  cases x <;> first | exact p.elim | skip
  · exact .inr (.inl p)
  · exact .inr (.inr p)
  · exact .inl p
theorem sl_U {X : Cx} : L2.SlR X (rOrS (rSlA X.K) (rOrS rSlS (rSlL X.K))) := slOr sl_tupA (slOr sl_str sl_list)

/-! ### walks over lists, tuples, texts -/
def iAny3 (K : PySem.W.Frag) (tl : TE) : TI := fun σ H R => tl σ H fun x H1 => (∃ a, x = .ref a ∧ (((∃ xs, SqL K H1 a xs) ∧ R (Itl K a) H1) ∨ ((∃ xs, SqT K H1 a xs) ∧ R (Itt K a) H1))) ∨ ∃ z, x = .str z ∧ R (Its z) H1
/-- a value that is told is read: what a walk's head makes of it -/
theorem pi_any3 {X : Cx} {tg l : Expr} {tl : TE} (hl : PE X l tl) : PI X tg l (iAny3 X.K tl) := by
  refine ⟨fun pins s σ H R I h => ?_⟩
  refine thn (hl.run pins s σ H _ I h) fun v s1 ⟨x, H1, I1, r1, q1⟩ => ?_
  rcases q1 with ⟨a, e, q⟩ | ⟨z, ez, q⟩
  · subst e
    cases r1
    rcases q with ⟨⟨xs, hq⟩, q⟩ | ⟨⟨xs, hq⟩, q⟩
    · obtain ⟨its, rv, p, hz⟩ := I1.list hq
      refine wpAny_pyIter_list p.isList ?_
      refine ⟨s1.heap.objs.size, [s1.heap.objs.size], _, _, H1, rfl, I1.kept (t' := s1.toks) fun b o e => Heap.get?_push_of_some _ e, turn_list a _, ⟨_, Heap.get?_push_size _ rfl, rfl, rfl⟩, fun b hb => ?_, q⟩
      have e : b = s1.heap.objs.size := by simpa using hb
      subst e
      exact I1.fpOk (Nat.le_refl _) (I1.hok.fresh (Nat.le_refl _))
    · obtain ⟨its, rv, p, hz⟩ := I1.tuple hq
      refine wpAny_pyIter_tuple (show s1.heap.IsTuple a its.toArray from p) ?_
      refine ⟨s1.heap.objs.size, [s1.heap.objs.size], _, _, H1, rfl, I1.kept (t' := s1.toks) fun b o e => Heap.get?_push_of_some _ e, turn_tuple a _, ⟨_, Heap.get?_push_size _ rfl, rfl, rfl⟩, fun b hb => ?_, q⟩
      have e : b = s1.heap.objs.size := by simpa using hb
      subst e
      exact I1.fpOk (Nat.le_refl _) (I1.hok.fresh (Nat.le_refl _))
  · subst ez
    obtain ⟨t, rfl⟩ := r1
    cases ha : z.cps.all (· < 128)
    · exact wpAny_pyIter_wide ha (pi_one (tk := s1.toks) I1 _ (turn_str _ z t "str_iterator" (.inr rfl)) ⟨_, Heap.get?_push_size _ rfl, rfl, rfl⟩ q)
    · exact wpAny_pyIter_ascii ha (pi_one (tk := s1.toks) I1 _ (turn_str _ z t "str_ascii_iterator" (.inl rfl)) ⟨_, Heap.get?_push_size _ rfl, rfl, rfl⟩ q)
variable {B : Bs} {W : WX} {X : Cx} {pos p : Pos} {a b c e tg iter : Expr} {fa fb fc : Fx D}
def D.walk : D → Option (List D)
  | .lst ds => some ds
  | .tup ds => some ds
  | .str z => some (signs z)
  | _ => none
def wWalk (fa : Fx D) : Fx (List D) := fun env P R => fa env (fun d => match d.walk with | some ds => P ds | none => False) R
theorem pdi_walk (h : PD B W X iter fa) : PDI B W X tg iter (wWalk fa) :=
  (pi_any3 h).imp fun σ H R ⟨G, env, P, Re, rel, hF, hP, hR⟩ => ⟨G, env, _, Re, rel, hF, fun d pd v G1 H1 g1 rv => by
    cases d <;> first | exact pd.elim | skip
    · exact .inr ⟨_, rv.str_inv, hP _ pd _ G1 H1 g1 it_str⟩
    · obtain ⟨q, xs, rfl, h, r⟩ := rv.lst_inv
      exact .inl ⟨q, rfl, .inl ⟨⟨xs, SqL.of (g1.gh _ _ h)⟩, hP _ pd _ G1 H1 g1 (it_list (SqL.of h) r)⟩⟩
    · obtain ⟨q, xs, rfl, h, r⟩ := rv.tup_inv
      exact .inl ⟨q, rfl, .inr ⟨⟨xs, ext g1.gh h⟩, hP _ pd _ G1 H1 g1 (it_tup h r)⟩⟩, hR⟩
/-! ### a new list that is hidden -/
def wHid (φ : List V → Prop) (f : Fx (List D)) : Fx D := fun env P R => f env (fun ds => (∀ (K : PySem.W.Frag) (G : Hp) vs, RepA K G vs ds → φ vs) ∧ P (.hid φ)) R
theorem pd_hid {φ : List V → Prop} {f : Fx (List D)} (h : PL B W X e f) : PD B W X e (wHid φ f) :=
  (Pre.pe_close h).imp fun σ H Q ⟨G, env, P, R, rel, hF, hP, hR⟩ => ⟨G, env, _, R, rel, hF, fun ds pd q vs G1 H1 g1 n1 n2 h1 rv => by
    refine ⟨q, φ, vs, h1, pd.1 _ _ _ rv, hP _ pd.2 _ (upd G1 q (LstX q φ)) _ ⟨g1.g.trans (exn n2), g1.h.mut n1, fun a u k => ?_, fun r hr => ?_⟩ (.hid upd_same)⟩
    · by_cases z : a = q
      · subst z
        rw [upd_same] at k ⊢
        exact k
      · rw [upd_ne z] at k ⊢
        exact g1.gh _ _ k
    · rw [upd_ne (fun z => hr (by rw [z]; exact n1))]
      exact g1.nw r hr, hR⟩
end
end Pd
set_option maxRecDepth 100000
set_option maxHeartbeats 4000000
/-! comprehensions of two clauses; dict(pairs); fields of several classes -/
namespace Pd
open PySem PySem.Spec PyProof.Rows L2 Pre
section
variable {B : Bs} {W : WX} {X : Cx} {pos p : Pos} {a b c e tg iter : Expr} {fa fb fc : Fx D} {ga : Fx Bool} {es : List Expr} {fas : Fx (List D)} {K : PySem.W.Frag}
def nE : Err → Prop := fun _ => False
/-- a target that stores values at these slots alone -/
def TgOk (vs : List Nat) (s : Tg) : Prop := ∀ d env e, s d env = some e → (∀ i, i ∉ vs → e[i]? = env[i]?) ∧ ((∀ i ∈ vs, ∀ t, env[i]? = some t → t.own = false) → ∀ i ∈ vs, ∀ t, e[i]? = some t → t.own = false)
def TgsOk (vs : List Nat) (s : Tgs) : Prop := ∀ d env e, s d env = some e → (∀ i, i ∉ vs → e[i]? = env[i]?) ∧ ((∀ i ∈ vs, ∀ t, env[i]? = some t → t.own = false) → ∀ i ∈ vs, ∀ t, e[i]? = some t → t.own = false)
theorem tgok_name {vs : List Nat} {i : Nat} (h : i ∈ vs := by decide) : TgOk vs (sName i) := fun d env e he => by
  cases he
  refine ⟨fun j hj => List.getElem?_set_ne (fun z : i = j => hj (by rw [← z]; exact h)), fun ho j hj t ht => ?_⟩
  by_cases z : i = j
  · subst z
    have l := get_lt ht
    rw [List.length_set] at l
    rw [List.getElem?_set_self l] at ht
    cases ht
    rfl
  · rw [List.getElem?_set_ne z] at ht
    exact ho j hj t ht
theorem tgsok_nil {vs : List Nat} : TgsOk vs sNil := fun ds env e he => by
  cases ds <;> cases he
  exact ⟨fun _ _ => rfl, fun h => h⟩
theorem tgsok_cons {vs : List Nat} {s : Tg} {t : Tgs} (h1 : TgOk vs s) (h2 : TgsOk vs t) : TgsOk vs (sCons s t) := fun ds env e he => by
  cases ds with
  | nil => cases he
  | cons d ds =>
    simp only [sCons] at he
    split at he
    · rename_i e1 q
      obtain ⟨a1, a2⟩ := h1 _ _ _ q
      obtain ⟨b1, b2⟩ := h2 _ _ _ he
      exact ⟨fun i hi => (b1 i hi).trans (a1 i hi), fun ho => b2 (a2 ho)⟩
    · cases he
theorem tgok_tup {vs : List Nat} {n : Nat} {t : Tgs} (h : TgsOk vs t) : TgOk vs (sTup n t) := fun d env e he => by
  cases d <;> first | (cases he; done) | skip
  simp only [sTup] at he
  split at he
  · exact h _ _ _ he
  · cases he
theorem wipeE_in {env : En} {i : Nat} {t : Sl} : ∀ {vs : List Nat}, i ∈ vs → (wipeE env vs)[i]? = some t → t = .no
  | v :: vs, h, e => by
    have e : ((wipeE env vs).set v .no)[i]? = some t := e
    by_cases z : v = i
    · subst z
      have l := get_lt e
      rw [List.length_set] at l
      rw [List.getElem?_set_self l] at e
      cases e
      rfl
    · rw [List.getElem?_set_ne z] at e
      rcases List.mem_cons.mp h with h | h
      · exact (z h.symm).elim
      · exact wipeE_in h e
theorem wipeE_out {env : En} {i : Nat} : ∀ {vs : List Nat}, i ∉ vs → (wipeE env vs)[i]? = env[i]?
  | [], _ => rfl
  | v :: vs, h => by
    rw [List.mem_cons, not_or] at h
    show ((wipeE env vs).set v .no)[i]? = env[i]?
    rw [List.getElem?_set_ne (Ne.symm h.1), wipeE_out h.2]
def wLc2i (vs1 : List Nat) (s1 : Tg) (gt1 : Fx Bool) (fe : Fx D) : List D → List D → En → (List D → Prop) → Prop
  | [], acc, _, k => k acc
  | d :: ds, acc, e1, k => match s1 d (wipeE e1 vs1) with
    | some e2 => gt1 e2 (fun b => if b = true then fe e2 (fun y => acc.length < sizeLine ∧ wLc2i vs1 s1 gt1 fe ds (acc ++ [y]) e1 k) nE else wLc2i vs1 s1 gt1 fe ds acc e1 k) nE
    | none => False
def wLc2o (vs : List Nat) (s : Tg) (gt : Fx Bool) (fi1 : Fx (List D)) (inner : List D → List D → En → (List D → Prop) → Prop) : List D → List D → En → (List D → Prop) → Prop
  | [], acc, _, P => P acc
  | d :: ds, acc, env, P => match s d (wipeE env vs) with
    | some e1 => gt e1 (fun b => if b = true then fi1 e1 (fun ds1 => inner ds1 acc e1 (fun acc' => wLc2o vs s gt fi1 inner ds acc' env P)) nE else wLc2o vs s gt fi1 inner ds acc env P) nE
    | none => False
def wComp2 (vs vs1 : List Nat) (fi : Fx (List D)) (s : Tg) (gt : Fx Bool) (fi1 : Fx (List D)) (s1 : Tg) (gt1 : Fx Bool) (fe : Fx D) : Fx (List D) := fun env P R => fi env (fun ds => wLc2o vs s gt fi1 (wLc2i vs1 s1 gt1 fe) ds [] env P) R
theorem lc2_ok {fi fi1 : Fx (List D)} {s s1 : Tg} {gt gt1 : Fx Bool} {fe : Fx D} {vs vs1 : List Nat} {σ : L2.St} {H : Hp} {Q : VK} (ho : TgOk vs s) (h : tL K B W (wComp2 vs vs1 fi s gt fi1 s1 gt1 fe) σ H Q) :
    tLc2 (tI K B W fi) (tgc K B vs s) (tQ K B W0 gt) (tI K B W0 fi1) (tgc K B vs1 s1) (tQ K B W0 gt1) (tP K B W0 fe) vs vs1 σ H Q := by
  obtain ⟨G, env, P, R, rel, hF, hP, hR⟩ := h
  refine ⟨G, env, _, R, rel, hF, fun ds pds J G1 H1 g1 it Dl nD => ?_, hR⟩
  refine ⟨fun i m H' => m = ds.length - i ∧ i ≤ ds.length ∧ ∃ G' ys acc, Grow G1 H1 G' H' ∧ G' Dl = none ∧ H' Dl = some (.lst ys) ∧ RepA K G' ys acc ∧ wLc2o vs s gt fi1 (wLc2i vs1 s1 gt1 fe) (ds.drop i) acc env P,
    ⟨ds.length, rfl, Nat.zero_le _, G1, [], [], Grow.own g1.gh nD, Evl.fresh_back g1.gh nD, upd_same, .nil, pds⟩, ?_⟩
  rintro i m H' ⟨rfl, hi, G', ys, acc, gr, nG, hD, ra, hw⟩
  have rel1 := rel.grow g1
  by_cases hlt : i < ds.length
  · refine .inr ⟨it.go i H' G' gr.g gr.gh hlt, fun H' => ∃ G' ys acc, Grow G1 H1 G' H' ∧ G' Dl = none ∧ H' Dl = some (.lst ys) ∧ RepA K G' ys acc ∧ wLc2o vs s gt fi1 (wLc2i vs1 s1 gt1 fe) (ds.drop (i + 1)) acc env P,
      fun H2 q => ⟨ds.length - (i + 1), by omega, rfl, hlt, q⟩, fun x H2 y => ?_⟩
    obtain ⟨G2, g2, rx⟩ := it.yld i H' x H2 G' ds[i] gr.g gr.gh (List.getElem?_eq_getElem hlt) y
    rw [List.drop_eq_getElem_cons hlt] at hw
    simp only [wLc2o] at hw
    split at hw
    · rename_i e1 he
      have gr2 := gr.trans g2
      have stay : ∀ {G3 H3 : Hp}, Grow G2 H2 G3 H3 → G3 Dl = none ∧ H3 Dl = some (.lst ys) := fun {G3 H3} g3 => by
        have h2 := g2.h _ _ hD
        exact ⟨(g3.nw _ (by rw [h2]; simp)).trans ((g2.nw _ (by rw [hD]; simp)).trans nG), g3.h _ _ h2⟩
      refine ⟨G2, _, _, e1, (rel1.grow gr2).wipe vs, rx, he, fun σ3 w3 rel3 => ⟨w3.trans (by rw [wipe_wipe]), ?_⟩⟩
      refine ⟨G2, e1, _, _, rel3, hw, fun b pb G3 H3 g3 => ?_, fun _ z => z.elim⟩
      cases b with
      | false =>
        obtain ⟨n3, h3⟩ := stay g3
        exact ⟨G3, ys, acc, gr2.trans g3, n3, h3, ra.ex (g2.trans g3).g, pb⟩
      | true =>
        rw [if_pos rfl]
        refine ⟨G3, e1, _, _, rel3.grow g3, pb, fun ds1 pds1 J1 G4 H4 g4 it1 => ?_, fun _ z => z.elim⟩
        obtain ⟨n4, h4⟩ := stay (g3.trans g4)
        have gr4 := gr2.trans (g3.trans g4)
        have ra4 := ra.ex ((g2.trans g3).trans g4).g
        have rel4 := rel3.grow (g3.trans g4)
        have nh : ∀ (a : Nat) t, e1[a]? = some t → t.own = true → σ3[a]? ≠ some (some (.ref Dl)) := fun a t h1 h2 h3 => by
          obtain ⟨o1, o2⟩ := ho _ _ _ he
          have ha : a ∉ vs := fun hin => by
            have := o2 (fun i hi t ht => by rw [wipeE_in hi ht]; rfl) a hin t h1
            rw [h2] at this
            cases this
          rw [o1 a ha, wipeE_out ha] at h1
          have e3 : σ3[a]? = σ[a]? := by
            rw [← L2.wipe_out ha, w3, wipe_wipe, L2.wipe_out ha]
          rw [e3] at h3
          exact rel1.fresh nD a t h1 h2 h3
        -- the inner walk
        refine ⟨fun j k H' => k = ds1.length - j ∧ j ≤ ds1.length ∧ ∃ G' ys acc, Ex G4 G' ∧ Grow G1 H1 G' H' ∧ Rel K B G' σ3 H' e1 ∧ G' Dl = none ∧ H' Dl = some (.lst ys) ∧ RepA K G' ys acc ∧ wLc2i vs1 s1 gt1 fe (ds1.drop j) acc e1 (fun acc' => wLc2o vs s gt fi1 (wLc2i vs1 s1 gt1 fe) (ds.drop (i + 1)) acc' env P),
          ⟨ds1.length, rfl, Nat.zero_le _, G4, ys, acc, ex0, gr4, rel4, n4, h4, ra4, pds1⟩, ?_⟩
        rintro j k H5 ⟨rfl, hj, G5, ys5, acc5, x5, gr5, rel5, n5, h5, ra5, hw5⟩
        by_cases hlj : j < ds1.length
        · refine .inr ⟨it1.go j H5 G5 x5 rel5.gh hlj, fun H' => ∃ G' ys acc, Ex G4 G' ∧ Grow G1 H1 G' H' ∧ Rel K B G' σ3 H' e1 ∧ G' Dl = none ∧ H' Dl = some (.lst ys) ∧ RepA K G' ys acc ∧ wLc2i vs1 s1 gt1 fe (ds1.drop (j + 1)) acc e1 (fun acc' => wLc2o vs s gt fi1 (wLc2i vs1 s1 gt1 fe) (ds.drop (i + 1)) acc' env P),
            fun H' q => ⟨ds1.length - (j + 1), by omega, rfl, hlj, q⟩, fun x1 H6 y1 => ?_⟩
          obtain ⟨G6, g6, rx6⟩ := it1.yld j H5 x1 H6 G5 ds1[j] x5 rel5.gh (List.getElem?_eq_getElem hlj) y1
          rw [List.drop_eq_getElem_cons hlj] at hw5
          simp only [wLc2i] at hw5
          split at hw5
          · rename_i e2 he2
            have stay5 : ∀ {G7 H7 : Hp}, Grow G6 H6 G7 H7 → G7 Dl = none ∧ H7 Dl = some (.lst ys5) := fun {G7 H7} g7 => by
              have h2 := g6.h _ _ h5
              exact ⟨(g7.nw _ (by rw [h2]; simp)).trans ((g6.nw _ (by rw [h5]; simp)).trans n5), g7.h _ _ h2⟩
            refine ⟨G6, _, _, e2, (rel5.grow g6).wipe vs1, rx6, he2, fun σ7 w7 rel7 => ⟨w7.trans (by rw [wipe_wipe]), ?_⟩⟩
            refine ⟨G6, e2, _, _, rel7, hw5, fun b pb G7 H7 g7 => ?_, fun _ z => z.elim⟩
            cases b with
            | false =>
              obtain ⟨n7, h7⟩ := stay5 g7
              have gg := g6.trans g7
              exact ⟨G7, ys5, acc5, x5.trans gg.g, gr5.trans gg, rel5.grow gg, n7, h7, ra5.ex gg.g, pb⟩
            | true =>
              rw [if_pos rfl]
              refine ⟨G7, e2, _, _, rel7.grow g7, pb, fun dy py v G8 H8 g8 rv => ?_, fun _ z => z.elim⟩
              obtain ⟨n8, h8⟩ := stay5 (g7.trans g8)
              have gg := (g6.trans g7).trans g8
              have ra8 := ra5.ex gg.g
              have gr8 := gr5.trans gg
              have rel8 := rel5.grow gg
              refine ⟨ys5, h8, by rw [ra5.len]; exact py.1, G8, ys5 ++ [v], acc5 ++ [dy], x5.trans gg.g, ⟨gr8.g, gr8.h.mut nD, gr8.gh.mut n8, gr8.nw⟩, ?_, n8, upd_same, ra8.app (.one rv), py.2⟩
              -- one's own slots do not hold the list that is being made
              have nB : B.H Dl = none := rel1.newB nD
              refine ⟨rel8.bg, rel8.bh.mut nB, rel8.gh.mut n8, rel8.nw, rel8.len, fun a o t h1 h2 => ?_, rel8.ds⟩
              refine (rel8.sl a o t h1 h2).mono ex0 fun q e1 w => ?_
              obtain ⟨q', e2, n2, _, oa⟩ := (rel8.sl a o t h1 h2).own w
              rw [e1] at e2
              obtain rfl : q = q' := by injection e2 with z; injection z
              by_cases zz : q = Dl
              · exfalso
                subst zz
                exact nh a t h2 w (h1.trans (congrArg some e1))
              · exact ⟨upd_ne zz, n2⟩
          · exact hw5.elim
        · have ej : j = ds1.length := by omega
          subst ej
          rw [List.drop_length] at hw5
          exact .inl ⟨it1.stop H5 G5 x5 rel5.gh, G5, ys5, acc5, gr5, n5, h5, ra5, hw5⟩
    · exact hw.elim
  · have ei : i = ds.length := by omega
    subst ei
    rw [List.drop_length] at hw
    exact .inl ⟨it.stop H' G' gr.g gr.gh, hP _ hw Dl ys G' H' (g1.trans gr) (Evl.fresh_back g1.h nD) nG hD ra⟩
theorem pl_lc2 {elt tg1 iter1 : Expr} {ifs ifs1 : List Expr} {scope : Scope} {own : List (Str × Nat)} {vs1 : List Nat} {fi fi1 : Fx (List D)} {s s1 : Tg} {gt gt1 : Fx Bool} {fe : Fx D} (hc : X.calm = true) (hN : X.N.Nodup) (hi : PDI B W X tg iter fi) (ok : BlkOk X.N X.env.scope scope own)
    (hv : ∀ i ∈ vs1, i ∈ own.map (·.2)) (ho : TgOk (own.map (·.2)) s)
    (hg : ∀ (s' : Shared) (H : Hp) (C : Addr) (cl : List (Str × Addr)) (fp : List Addr), PGc B (X.blk s' H scope (compEnvC scope cl C X.env) fp) (own.map (·.2)) tg s)
    (ht : ∀ (s' : Shared) (H : Hp) (C : Addr) (cl : List (Str × Addr)) (fp : List Addr), PQs B W0 (X.blk s' H scope (compEnvC scope cl C X.env) fp) ifs gt)
    (hi1 : ∀ (s' : Shared) (H : Hp) (C : Addr) (cl : List (Str × Addr)) (fp : List Addr), PDI B W0 (X.blk s' H scope (compEnvC scope cl C X.env) fp) tg1 iter1 fi1)
    (hg1 : ∀ (s' : Shared) (H : Hp) (C : Addr) (cl : List (Str × Addr)) (fp : List Addr), PGc B (X.blk s' H scope (compEnvC scope cl C X.env) fp) vs1 tg1 s1)
    (ht1 : ∀ (s' : Shared) (H : Hp) (C : Addr) (cl : List (Str × Addr)) (fp : List Addr), PQs B W0 (X.blk s' H scope (compEnvC scope cl C X.env) fp) ifs1 gt1)
    (he : ∀ (s' : Shared) (H : Hp) (C : Addr) (cl : List (Str × Addr)) (fp : List Addr), PD B W0 (X.blk s' H scope (compEnvC scope cl C X.env) fp) elt fe) (hs : ∀ x, foldedSetIterable iter X.env x = pure x := by intro _; rfl) (hs1 : ∀ env x, foldedSetIterable iter1 env x = pure x := by intro _ _; rfl) :
    PL B W X (.ListComp elt [⟨tg, iter, ifs, 0⟩, ⟨tg1, iter1, ifs1, 0⟩] scope pos) (wComp2 (own.map (·.2)) vs1 fi s gt fi1 s1 gt1 fe) :=
  (pe_lc2 (g := tgc X.K B (own.map fun q : Str × Nat => q.2) s) (tt := tQ X.K B W0 gt) (wi1 := tI X.K B W0 fi1) (g1 := tgc X.K B vs1 s1) (tt1 := tQ X.K B W0 gt1) (te := tP X.K B W0 fe) hc hN hi ok hv hg ht hi1 hg1 ht1 he hs hs1).imp fun _ _ _ q => lc2_ok ho q

/-! ### dict(pairs) -/
def pairsOf : List D → Option (List (Key × D))
  | [] => some []
  | .tup [k, v] :: r => match keyOf k, pairsOf r with
    | some kk, some ps => some ((kk, v) :: ps)
    | _, _ => none
  | _ => none
def putAll (x : List Key × List D) : List (Key × D) → List Key × List D
  | [] => x
  | kd :: r => putAll (dput x.1 x.2 kd.1 kd.2) r
theorem putAll_of {G : Hp} : ∀ {more : List (Key × V)} {ps : List (Key × D)} {kvs : List (Key × V)} {x : List Key × List D}, more.map (·.1) = ps.map (·.1) → RepA K G (more.map (·.2)) (ps.map (·.2)) → kvs.map (·.1) = x.1 → RepA K G (kvs.map (·.2)) x.2 →
    (mergeK kvs more).map (·.1) = (putAll x ps).1 ∧ RepA K G ((mergeK kvs more).map (·.2)) (putAll x ps).2
  | [], [], kvs, x, _, _, h1, h2 => ⟨h1, h2⟩
  | [], _ :: _, _, _, e, _, _, _ => nomatch e
  | _ :: _, [], _, _, e, _, _, _ => nomatch e
  | (k, v) :: more, (k', d) :: ps, kvs, x, e, r, h1, h2 => by
    simp only [List.map_cons, List.cons.injEq] at e
    obtain ⟨rfl, e⟩ := e
    cases r with
    | cons hv hr =>
      obtain ⟨x1, x2⟩ := x
      subst h1
      obtain ⟨z1, z2⟩ := dput_of (k := k) hv h2
      exact putAll_of (more := more) (ps := ps) (kvs := putK kvs k v) (x := dput (kvs.map (·.1)) x2 k d) e hr z1 z2
@[irreducible] def φDictP : List D → (List Key × List D → Prop) → Prop
  | [.lst ds], P => match pairsOf ds with
    | some ps => P (putAll ([], []) ps)
    | none => False
  | _, _ => False
theorem pairs_inv {G : Hp} : ∀ {ds : List D} {ps : List (Key × D)} {xs : List V}, pairsOf ds = some ps → RepA K G xs ds → ∃ (qs : List Addr) (kvs : List (Key × V)), xs = qs.map V.ref ∧ Paired (fun p kv => SqT K G p [kV kv.1, kv.2]) qs kvs ∧ kvs.map (·.1) = ps.map (·.1) ∧ RepA K G (kvs.map (·.2)) (ps.map (·.2))
  | [], ps, xs, h, r => by
    cases h
    cases r
    exact ⟨[], [], rfl, .nil, rfl, .nil⟩
  | d :: ds, ps, xs, h, r => by
    cases r with
    | cons hv hr =>
      unfold pairsOf at h
      split at h
      · rename_i heq; cases heq
      · rename_i k v r' heq
        cases heq
        split at h
        · rename_i kk ps' hk hp
          cases h
          obtain ⟨a, ys, rfl, hs, rs⟩ := hv.tup_inv
          obtain ⟨v1, v2, rfl, r1, r2⟩ := rs.two_inv
          have ek := keyOf_rep r1 hk
          subst ek
          obtain ⟨qs, kvs, rfl, h1, h2, h3⟩ := pairs_inv hp hr
          exact ⟨a :: qs, (kk, v2) :: kvs, rfl, .cons hs h1, by simp only [List.map_cons, h2], .cons r2 h3⟩
        · cases h
      · cases h
def wBk (φ : List D → (List Key × List D → Prop) → Prop) (fas : Fx (List D)) : Fx (List Key × List D) := fun env P R => fas env (fun ds => φ ds P) R
theorem paired_ex {G H : Hp} (e : Ex G H) : ∀ {qs : List Addr} {kvs : List (Key × V)}, Paired (fun p kv => SqT K G p [kV kv.1, kv.2]) qs kvs → Paired (fun p kv => SqT K H p [kV kv.1, kv.2]) qs kvs
  | _, _, .nil => .nil
  | _, _, .cons h r => .cons (ext e h) (paired_ex e r)
theorem pk_dictP (h : PE X e (tCB (fun xs H Q => ∃ (a : Addr) (ps : List Addr) (kvs : List (Key × V)), xs = [.ref a] ∧ SqL X.K H a (ps.map V.ref) ∧ Paired (fun p kv => SqT X.K H p [kV kv.1, kv.2]) ps kvs ∧ ∀ p, H p = none → Q (.ref p) (upd H p (.dK (mergeK [] kvs)))) (tA X.K B W fas))) : PK' B W X e (wBk φDictP fas) :=
  h.imp fun σ H Q ⟨G, env, P, R, rel, hF, hP, hR⟩ => ⟨G, env, _, R, rel, hF, fun ds pd vs G1 H1 g1 rvs => by
    unfold φDictP at pd
    split at pd
    · split at pd
      · rename_i ps hps
        obtain ⟨v, rfl, hv⟩ := rvs.one_inv
        obtain ⟨q, ys, rfl, hs, rs⟩ := hv.lst_inv
        obtain ⟨qs, kvs, rfl, h1, h2, h3⟩ := pairs_inv hps rs
        obtain ⟨z1, z2⟩ := putAll_of (x := ([], [])) (kvs := []) h2 h3 rfl .nil
        exact ⟨q, qs, kvs, rfl, SqL.of (g1.gh _ _ hs), paired_ex g1.gh h1, fun t nt => hP _ pd t _ G1 _ (g1.trans (Grow.own g1.gh nt)) (Evl.fresh_back g1.h nt) (Evl.fresh_back g1.gh nt) upd_same z1 z2⟩
      · exact pd.elim
    · exact pd.elim, hR⟩

/-! ### fields of any of several classes -/
def wFlds (cs : List Addr) (f : Str) (fa : Fx D) : Fx D := fun env P R => fa env (fun d => match d with
  | .obj C ns ds => C ∈ cs ∧ match nlook ns ds f with
    | some d => P d
    | none => False
  | _ => False) R
theorem pd_flds {cs : List Addr} {f : Str} (hc : ∀ C ∈ cs, Cls X.K C ∧ NoAttr X.K C f) (ha : PD B W X a fa) (hb : attributeBase a f X.env (eval a X.env) = eval a X.env := by rfl) : PD B W X (.Attribute a f pos) (wFlds cs f fa) :=
  (pe_fld ha hb).imp fun σ H Q ⟨G, env, P, R, rel, hF, hP, hR⟩ => ⟨G, env, _, R, rel, hF, fun d pd v G1 H1 g1 rv => by
    cases d <;> first | exact pd.elim | skip
    obtain ⟨hC, pd⟩ := pd
    split at pd
    · rename_i d' hd
      cases rv with
      | obj h e r =>
        obtain ⟨u, h1, h2⟩ := nlook_of e r hd
        exact ⟨_, _, _, _, u, rfl, g1.gh _ _ h, (hc _ hC).1, (hc _ hC).2, h1, hP _ pd _ G1 H1 g1 h2⟩
    · exact pd.elim, hR⟩
end
end Pd
set_option maxRecDepth 100000
set_option maxHeartbeats 4000000
/-! what the generated texts name -/
namespace Pd
open PySem PySem.Spec PyProof.Rows L2 Pre
theorem _root_.L2.Room.units65 {k : Nat} {A : Around} (r : Room k A) : A.units + 65 < cLine := by have := r.un; omega
/-- a def of which nothing is asked -/
theorem okF {P : Program} {w : World} {K : PySem.W.Frag} {mg : Str → Option Value} {base : Heap} {CX : CXT} {k n : Nat} {f : Addr} {fd : FuncData} {ps : List Str} (_ : ps.length = n) : FnOk P w K mg base CX k f fd ps (spP K n fun _ _ _ => False) :=
  ⟨fun vs H Q E ⟨_, _, _, _, _, _, _, h, _⟩ => h.elim, fun A outer s H args us vs Q E _ _ _ _ ⟨_, _, _, _, _, _, _, h, _⟩ => h.elim⟩
/-- what is known of an own class that is no error, as one Bool -/
def objB (K : PySem.W.Frag) (C : Addr) : Bool :=
  PySem.W.plainGet K C Str.empty && (PySem.W.hasDictIn K C && (PySem.W.plainOver K C && (PySem.W.findIn K (.ref C) "__setattr__" == some (some (.builtin "object.__setattr__")) &&
  (PySem.W.findIn K (.ref C) "__class__" == some (some (.builtin "object.__class__")) && (PySem.W.specialIn K (.builtin "object.__class__") "__get__" == some (some (.builtin "getset_descriptor.__get__")) && (PySem.W.takesIn K (.builtin "object.__class__") == some true && (PySem.W.mroIn K C (.type "object") == some true &&
  (PySem.W.kitOne K (.ref C) (.type "int") == some false && (PySem.W.kitOne K (.ref C) (.type "bool") == some false && (PySem.W.kitOne K (.ref C) (.type "str") == some false && (PySem.W.kitOne K (.ref C) (.type "tuple") == some false && (PySem.W.kitOne K (.ref C) (.type "list") == some false && PySem.W.kitOne K (.ref C) (.type "dict") == some false))))))))))))
theorem objB_ok {K : PySem.W.Frag} {C : Addr} (h : objB K C = true) : OwnC K C ∧ ∀ k : Kd, PySem.W.kitOne K (.ref C) (.type k.name) = some false := by
  unfold objB at h
  simp only [Bool.and_eq_true, beq_iff_eq] at h
  obtain ⟨h0, h1, h2, h3, h4, h5, h6, h7, h8, h9, h10, h11, h12, h13⟩ := h
  refine ⟨⟨⟨h0, h1, h2, h3⟩, h4, h5, h6, h7⟩, fun k => ?_⟩
  cases k <;> assumption
def mkB (K : PySem.W.Frag) (C f : Addr) : Bool := PySem.W.makesIn K C && (PySem.W.isFn K (.ref f) && PySem.W.keepIn K (.ref C))
theorem mkB_ok {K : PySem.W.Frag} {C f : Addr} (h : mkB K C f = true) (hi : PySem.W.findIn K (.ref C) "__init__" = some (some (.ref f))) : Mk K C f := by
  unfold mkB at h
  simp only [Bool.and_eq_true] at h
  exact ⟨h.1, hi, h.2.1, h.2.2⟩
theorem exm_self {K : PySem.W.Frag} {cs : List Addr} {E N c : Addr} (h : Xc.tabB K cs E N = true) (hc : c ∈ cs) : PySem.W.exmOne K (.ref c) (.ref c) = some true := by
  have := (Xc.tab_pair h hc hc).1
  rwa [beq_self_eq_true] at this
def wCallK (m n : Nat) (is : List Nat) (F : Fd) (fas : Fx (List D)) : Fx D := fun env P R => fas env (fun ds => ds.length = m ∧ (perm is ds).length = n ∧ F (perm is ds) P R) R
theorem cxNo {P : Program} {w : World} {outer : List Env} {H : Hp} {s : Shared} {e : Value} {s' : Shared} (h : L2.CX P w outer H s (fun _ _ _ => False) e s') : False := by
  obtain ⟨_, _, _, _, _, _, _, _, _, _, _, _, z⟩ := h
  exact z.elim
/-- the law's promise, from the pure meaning -/
def spLaw (K : PySem.W.Frag) : Sp := fun vs H Q _ => ∃ (a : Addr) (ns : List Int), vs = [.ref a] ∧ SqL K H a (ns.map V.int) ∧ ns.length ≤ 63 ∧ ∀ H', Q (.bl true) H'
theorem law_of {P : Program} {w : World} {K : PySem.W.Frag} {mg : Str → Option Value} {base : Heap} {CX : CXT} {k : Nat} {f : Addr} {fd : FuncData} {ps : List Str} {F : Fd} (ok : FnOk P w K mg base CX k f fd ps (spP K 1 F))
    (h : ∀ (ns : List Int), ns.length ≤ 63 → F [.frz (ns.map D.int)] (fun d => d = .bl true) (fun _ => False)) : FnOk P w K mg base CX k f fd ps (spLaw K) := ok.imp fun vs H Q E ⟨a, ns, e, hs, hl, q⟩ => by
  subst e
  exact ⟨H, _, _, _, ex0, .one (.frz hs (repA_ints ns)), rfl, h ns hl, fun d hd v G' H' g r => by subst hd; cases r; exact q H', fun _ z => z.elim⟩
/-! ### the box: three numbers, not below 0, and no more is known of them -/
def BoxP : List V → Prop := fun xs => ∃ c m j : Int, xs = [.int c, .int m, .int j] ∧ 0 ≤ c ∧ 0 ≤ m ∧ 0 ≤ j
def BoxAt (H : Hp) (b : Addr) : Prop := H b = some (LstX b BoxP)
theorem BoxAt.ex {H H' : Hp} {b : Addr} (h : BoxAt H b) (e : Ex H H') : BoxAt H' b := e _ _ h
/-- the box is open, all else stands -/
structure Open (H : Hp) (b : Addr) (c m j : Int) (H' : Hp) : Prop where
  hb : H' b = some (.lst [.int c, .int m, .int j])
  c0 : 0 ≤ c
  m0 : 0 ≤ m
  j0 : 0 ≤ j
  off : ∀ x o, H x = some o → x ≠ b → H' x = some o
theorem Open.set {H H' : Hp} {b : Addr} {c m j c' m' j' : Int} {xs : List V} (S : Open H b c m j H') (e : xs = [.int c', .int m', .int j']) (h1 : 0 ≤ c') (h2 : 0 ≤ m') (h3 : 0 ≤ j') : Open H b c' m' j' (upd H' b (.lst xs)) :=
  ⟨by rw [e]; exact upd_same, h1, h2, h3, fun x o h ne => by rw [upd_ne ne]; exact S.off x o h ne⟩
theorem Open.close {H H' : Hp} {b : Addr} {c m j : Int} (S : Open H b c m j H') (h : BoxAt H b) : Ex H (upd H' b (LstX b BoxP)) := fun x o hx => by
  by_cases e : x = b
  · subst e
    rw [upd_same]
    exact h.symm.trans hx
  · rw [upd_ne e]
    exact S.off x o hx e
def spTake : Sp := fun vs H Q _ => ∃ (b : Addr) (many : Int), vs = [.ref b, .int many] ∧ BoxAt H b ∧ 1 ≤ many ∧ many ≤ 10 ^ 18 ∧ ∀ r H', Ex H H' → 0 ≤ r → r < many → Q (.int r) H'
abbrev dBox : D := .hid BoxP
def FTake : Fd := fun ds P _ => match ds with
  | [.hid φ, .int many] => φ = BoxP ∧ 1 ≤ many ∧ many ≤ 10 ^ 18 ∧ ∀ r, 0 ≤ r → r < many → P (.int r)
  | _ => False
theorem take_of {P : Program} {w : World} {K : PySem.W.Frag} {mg : Str → Option Value} {base : Heap} {CX : CXT} {k : Nat} {f : Addr} {fd : FuncData} {ps : List Str} (ok : FnOk P w K mg base CX k f fd ps spTake) : FnOk P w K mg base CX k f fd ps (spP K 2 FTake) := ok.imp fun vs H Q E ⟨G, ds, P', R', e, r, hl, hF, hP, hR⟩ => by
  unfold FTake at hF
  split at hF
  · rename_i φ many
    obtain ⟨rfl, h1, h2, h3⟩ := hF
    obtain ⟨v, u, rfl, r1, r2⟩ := r.two_inv
    cases r2
    cases r1 with
    | hid hg => exact ⟨_, many, rfl, e _ _ hg, h1, h2, fun r H' x r0 r1 => hP _ (h3 r r0 r1) _ G H' ⟨ex0, x, e.trans x, fun _ _ => rfl⟩ (.int _)⟩
  · exact hF.elim
/-! ### a, b = x, y where a name is a cell: a tuple stands between -/
section
variable {B : Bs} {W : WX} {X : Cx} {pos : Pos} {a b c : Expr}
theorem pds_parT2 {i j : Nat} {x y : Str} {px py pt : Pos} {kt k2 pt2} {fs ft : Fx Sl} (hc : X.calm = true) (hN : X.N.Nodup) (hi : X.N[i]? = some x) (hj : X.N[j]? = some y)
    (hx : Loc X.env.scope x) (hy : Loc X.env.scope y) (fx : X.fn x = true ∨ X.env.scope.names.lookup x = some .local) (fy : X.fn y = true ∨ X.env.scope.names.lookup y = some .local) (ha : PSl B W X a fs) (hb : PSl B W X b ft)
    (hw : swappedStores [.Tuple [.Name x px, .Name y py] kt pt] (.Tuple [a, b] k2 pt2) X.env = pure none := by rfl)
    (hs : swapsWithSole [.Tuple [.Name x px, .Name y py] kt pt] (.Tuple [a, b] k2 pt2) pos.line X.env = pure false := by rfl)
    (s1 : starEach [a, b] X.env = (false, eval a X.env) :: starEach [b] X.env := by rfl) (s2 : starEach [b] X.env = (false, eval b X.env) :: starEach [] X.env := by rfl)
    (h1 : (assignEach [.Tuple [.Name x px, .Name y py] kt pt] X.env).map (·.2) = [assign (.Tuple [.Name x px, .Name y py] kt pt) X.env] := by rfl)
    (g1 : (assignEach [.Name x px, .Name y py] X.env).map (·.2) = assign (.Name x px) X.env :: (assignEach [.Name y py] X.env).map (·.2) := by rfl)
    (g2 : (assignEach [.Name y py] X.env).map (·.2) = assign (.Name y py) X.env :: (assignEach [] X.env).map (·.2) := by rfl)
    (g3 : (assignEach [.Name x px, .Name y py] X.env).length = 2 := by rfl) (g4 : (assignEach [.Name x px, .Name y py] X.env).findIdx? (·.1) = none := by rfl) :
    PDs B W X (.Assign [.Tuple [.Name x px, .Name y py] kt pt] (.Tuple [a, b] k2 pt2) pos) (wPar2 i j fs ft) :=
  (ps_asg (pe_tup (pa_cons ha (pa_cons hb pa_nil s2) s1)) (pg_tup hc (pgs_cons (pg_name hN hi hx fx) (pgs_cons (pg_name hN hj hy fy) pgs_nil g2) g1) g3 g4) hs hw h1).imp fun Dn σ H ⟨G, env, P, rel, hF, ok⟩ =>
    ⟨G, env, _, _, rel, hF, fun s ps v G1 H1 g1 hn => ⟨G1, env, _, _, rel.grow g1, ps, fun t pt u G2 H2 g2 hm => ⟨by show 2 ≤ sizeLine; decide, fun p np => ⟨p, [v, u], rfl, SqT.of upd_same, rfl, v, [u], rfl, u, [], rfl, rfl, by
      have g3 : Grow G2 H2 G2 (upd H2 p (.tup [v, u])) := Grow.own g2.gh np
      have g := (g1.trans g2).trans g3
      have rel2 := (rel.grow g).sets (G := G) (H := H) (fun q n => rel.newB n) (fun q n => rel.fresh n) (hn.grow (g2.trans g3)) i
      refine ok.nx _ pt _ G2 _ g.g (rel2.sets (G := G1) (H := H1) (fun q n => (rel.grow g1).newB n) (fun q n => fresh_set q ((rel.grow g1).fresh n) fun w z => ?_) (hm.grow g3) j)
      obtain ⟨q', o, e1, e2⟩ := own_ref hn w
      rw [z] at e1
      cases e1
      rw [n] at e2
      cases e2⟩⟩, fun e p => ((ok.err rel) e p).grow g1⟩, ok.err rel⟩
end
end Pd
set_option maxRecDepth 100000
set_option maxHeartbeats 4000000
/-! the pure kit: how meanings are computed -/
namespace Pd
open PySem PySem.Spec PyProof.Rows L2 Pre
/-! ### ifs -/
theorem wT {b : Bool} {p q : Prop} (h : b = true) (a : p) : if b = true then p else q := by rw [if_pos h]; exact a
theorem wF {b : Bool} {p q : Prop} (h : b = false) (a : q) : if b = true then p else q := by rw [if_neg (by rw [h]; decide)]; exact a
theorem wTF {b : Bool} {p q : Prop} (h1 : b = true → p) (h2 : b = false → q) : if b = true then p else q := by
  cases hb : b with
  | true => rw [if_pos rfl]; exact h1 hb
  | false => rw [if_neg (by decide)]; exact h2 hb
theorem nT {p : Prop} [Decidable p] (h : p) : (!decide p) = false := by rw [decide_eq_true h]; rfl
theorem nF {p : Prop} [Decidable p] (h : ¬ p) : (!decide p) = true := by rw [decide_eq_false h]; rfl
/-! ### loops -/
structure LpQ (P : Out → Prop) (I : En → Prop) (Q : Out → Prop) : Prop where
  nx : ∀ e, I e → Q (.nx e)
  ct : ∀ e, I e → Q (.ct e)
  bk : ∀ e, P (.nx e) → Q (.bk e)
  rt : ∀ d, P (.rt d) → Q (.rt d)
  er : ∀ e r, P (.er e r) → Q (.er e r)
theorem loop_inv {s : Tg} {body : Fs} {P : Out → Prop} (Inv : Nat → En → Prop) : ∀ (ds : List D) (n : Nat) (env : En), Inv n env →
    (∀ i d e0 (Q : Out → Prop), ds[i]? = some d → Inv (n + i) e0 → LpQ P (Inv (n + i + 1)) Q → ∃ e, s d e0 = some e ∧ body e Q) → (∀ e, Inv (n + ds.length) e → P (.nx e)) → wLoop s body ds env P
  | [], n, env, h0, step, fin => fin _ h0
  | d :: ds, n, env, h0, step, fin => by
    obtain ⟨e, he, hb⟩ := step 0 d env (fun o => match o with | .nx e => wLoop s body ds e P | .ct e => wLoop s body ds e P | .bk e => P (.nx e) | .rt d => P (.rt d) | .er e r => P (.er e r)) rfl h0 (by
      have go : ∀ e, Inv (n + 1) e → wLoop s body ds e P := fun e he => loop_inv Inv ds (n + 1) e he (fun i d e0 Q hd hi hq => step (i + 1) d e0 Q (by simpa using hd) (by rw [show n + (i + 1) = n + 1 + i from by omega]; exact hi) (by rw [show n + (i + 1) = n + 1 + i from by omega]; exact hq))
        fun e hi => fin e (by rw [List.length_cons, show n + (ds.length + 1) = n + 1 + ds.length from by omega]; exact hi)
      exact ⟨go, go, fun _ h => h, fun _ h => h, fun _ _ h => h⟩)
    unfold wLoop
    rw [he]
    exact hb
theorem for_inv {fi : Fx (List D)} {s : Tg} {body : Fs} {env : En} {P : Out → Prop} (ds : List D) (hi : ∀ (Q : List D → Prop) R, Q ds → fi env Q R) (Inv : Nat → En → Prop) (h0 : Inv 0 env)
    (step : ∀ i d e0 (Q : Out → Prop), ds[i]? = some d → Inv i e0 → LpQ P (Inv (i + 1)) Q → ∃ e, s d e0 = some e ∧ body e Q) (fin : ∀ e, Inv ds.length e → P (.nx e)) : wFor fi s body env P := by
  unfold wFor
  exact hi _ _ (loop_inv Inv ds 0 env h0 (fun i d e0 Q hd h hq => step i d e0 Q hd (by simpa using h) (by simpa using hq)) (by simpa using fin))
/-! ### comprehensions -/
section
variable {vs : List Nat} {s : Tg} {gt : Fx Bool} {fe : Fx D} {env : En} {P : List D → Prop} {R : Err → Prop}
theorem lc_go (Rl : Nat → D → Prop) : ∀ (ds acc : List D) (n : Nat), acc.length + ds.length ≤ sizeLine →
    (∀ i d (Q : D → Prop), ds[i]? = some d → (∀ y, Rl (n + i) y → Q y) → ∃ e1, s d (wipeE env vs) = some e1 ∧ fe e1 Q (fun _ => False)) →
    (∀ ys : List D, ys.length = ds.length → (∀ i y, ys[i]? = some y → Rl (n + i) y) → P (acc ++ ys)) → wLc vs s wYes fe ds acc env P R
  | [], acc, n, hl, step, k => by
    show P acc
    simpa using k [] rfl (by simp)
  | d :: ds, acc, n, hl, step, k => by
    rw [List.length_cons] at hl
    obtain ⟨e1, he, hb⟩ := step 0 d (fun y => acc.length < sizeLine ∧ wLc vs s wYes fe ds (acc ++ [y]) env P R) rfl fun y hy => ⟨by omega, lc_go Rl ds (acc ++ [y]) (n + 1) (by simp; omega)
      (fun i d Q hd hq => step (i + 1) d Q (by simpa using hd) (by rw [show n + (i + 1) = n + 1 + i from by omega]; exact hq)) fun ys h1 h2 => by
        rw [List.append_assoc]
        refine k (y :: ys) (by simp [h1]) fun i z hz => ?_
        cases i with
        | zero =>
          have : y = z := by simpa using hz
          rw [← this]
          exact hy
        | succ i => rw [show n + (i + 1) = n + 1 + i from by omega]; exact h2 i z (by simpa using hz)⟩
    unfold wLc
    rw [he]
    exact hb
/-- each turn gives something -/
theorem lc_rel {ds : List D} (Rl : Nat → D → Prop) (hl : ds.length ≤ sizeLine) (step : ∀ i d (Q : D → Prop), ds[i]? = some d → (∀ y, Rl i y → Q y) → ∃ e1, s d (wipeE env vs) = some e1 ∧ fe e1 Q (fun _ => False))
    (k : ∀ ys : List D, ys.length = ds.length → (∀ i y, ys[i]? = some y → Rl i y) → P ys) : wLc vs s wYes fe ds [] env P R :=
  lc_go Rl ds [] 0 (by simpa using hl) (fun i d Q hd hq => step i d Q hd (by simpa using hq)) fun ys h1 h2 => k ys h1 fun i y hy => by simpa using h2 i y hy
/-- each turn gives just this -/
theorem lc_map {ds : List D} (g : D → D) (hl : ds.length ≤ sizeLine) (step : ∀ d ∈ ds, ∀ Q : D → Prop, Q (g d) → ∃ e1, s d (wipeE env vs) = some e1 ∧ fe e1 Q (fun _ => False)) (k : P (ds.map g)) : wLc vs s wYes fe ds [] env P R :=
  lc_rel (fun i y => ∃ d, ds[i]? = some d ∧ y = g d) hl (fun i d Q hd hq => step d (List.mem_of_getElem? hd) Q (hq _ ⟨d, hd, rfl⟩)) fun ys h1 h2 => by
    have : ys = ds.map g := by
      apply List.ext_getElem?
      intro i
      rw [List.getElem?_map]
      cases hy : ys[i]? with
      | none =>
        have : ds[i]? = none := List.getElem?_eq_none (by have := List.getElem?_eq_none_iff.mp hy; omega)
        rw [this]; rfl
      | some y =>
        obtain ⟨d, hd, rfl⟩ := h2 i y hy
        rw [hd]; rfl
    rw [this]
    exact k
theorem lc_fgo (c : D → Bool) (g : D → D) : ∀ (ds acc : List D), acc.length + ds.length ≤ sizeLine →
    (∀ d ∈ ds, ∃ e1, s d (wipeE env vs) = some e1 ∧ (∀ Q : Bool → Prop, Q (c d) → gt e1 Q (fun _ => False)) ∧ (c d = true → ∀ Q : D → Prop, Q (g d) → fe e1 Q (fun _ => False))) → P (acc ++ (ds.filter c).map g) → wLc vs s gt fe ds acc env P R
  | [], acc, hl, step, k => by
    show P acc
    simpa using k
  | d :: ds, acc, hl, step, k => by
    rw [List.length_cons] at hl
    obtain ⟨e1, he, h1, h2⟩ := step d List.mem_cons_self
    unfold wLc
    rw [he]
    refine h1 _ (wTF (fun hc => h2 hc _ ⟨by omega, lc_fgo c g ds (acc ++ [g d]) (by simp; omega) (fun d hd => step d (List.mem_cons_of_mem _ hd)) ?_⟩) fun hc => lc_fgo c g ds acc (by omega) (fun d hd => step d (List.mem_cons_of_mem _ hd)) ?_)
    · rw [List.filter_cons_of_pos hc] at k
      simpa using k
    · rw [List.filter_cons_of_neg (by rw [hc]; decide)] at k
      exact k
/-- those of which the test holds -/
theorem lc_sel {ds : List D} (c : D → Bool) (g : D → D) (hl : ds.length ≤ sizeLine) (step : ∀ d ∈ ds, ∃ e1, s d (wipeE env vs) = some e1 ∧ (∀ Q : Bool → Prop, Q (c d) → gt e1 Q (fun _ => False)) ∧ (c d = true → ∀ Q : D → Prop, Q (g d) → fe e1 Q (fun _ => False)))
    (k : P ((ds.filter c).map g)) : wLc vs s gt fe ds [] env P R := lc_fgo c g ds [] (by simpa using hl) step (by simpa using k)
end
theorem small (n : Nat) (h : n ≤ 100000 := by omega) : n ≤ sizeLine := by rw [sizeLine_eq]; omega
/-! ### signs and names -/
theorem signs_len (z : Str) : (Pd.signs z).length = z.length := by
  unfold Pd.signs
  rw [List.length_map]
  show _ = z.cps.size
  simp
theorem signs_get {z : Str} {i : Nat} {d : D} (h : (signs z)[i]? = some d) : ∃ c, z.cps.toList[i]? = some c ∧ d = .str ⟨#[c]⟩ := by
  unfold signs at h
  rw [List.getElem?_map] at h
  cases hc : z.cps.toList[i]? with
  | none => rw [hc] at h; cases h
  | some c => rw [hc] at h; cases h; exact ⟨c, rfl, rfl⟩
def isLetter (c : Nat) : Bool := decide (97 ≤ c ∧ c ≤ 122)
def isName (s : Str) : Bool := decide (1 ≤ s.length) && (decide (s.length ≤ 8) && s.cps.toList.all isLetter)
theorem len_cps (s : Str) : s.length = s.cps.toList.length := by
  show s.cps.size = _
  simp
theorem letters_list : ("abcdefghijklmnopqrstuvwxyz" : Str).cps.toList = (List.range 26).map (· + 97) := by decide +kernel
theorem letter_mem (c : Nat) : decide (c ∈ ("abcdefghijklmnopqrstuvwxyz" : Str).cps.toList) = isLetter c := by
  rw [letters_list]
  unfold isLetter
  apply decide_eq_decide.mpr
  simp only [List.mem_map, List.mem_range]
  constructor
  · rintro ⟨a, h1, h2⟩
    omega
  · intro h
    exact ⟨c - 97, by omega, by omega⟩
/-! ### order of texts -/
theorem sLt_irrefl (a : Str) : sLt a a = false := decide_eq_false (List.lt_irrefl _)
theorem sLt_trans {a b c : Str} (h1 : sLt a b = true) (h2 : sLt b c = true) : sLt a c = true := decide_eq_true (List.lt_trans (of_decide_eq_true h1) (of_decide_eq_true h2))
theorem str_ext {a b : Str} (h : a.cps.toList = b.cps.toList) : a = b := by
  cases a
  cases b
  exact congrArg _ (Array.toList_inj.mp h)
theorem sLt_tri {a b : Str} (h1 : sLt a b = false) (h2 : sLt b a = false) : a = b := str_ext (by
  have e1 := of_decide_eq_false h1
  have e2 := of_decide_eq_false h2
  exact List.le_antisymm (List.not_lt.mp e2) (List.not_lt.mp e1))
/-! ### built-ins, read -/
section
variable {Q : D → Prop}
theorem all_ok {ds : List D} (bs : List Bool) (h : ds = bs.map D.bl) (q : Q (.bl (bs.all id))) : φAll false [.lst ds] Q := by
  subst h
  show match allB (bs.map D.bl) with | some ns => Q (.bl (if false = true then ns.any id else ns.all id)) | none => False
  rw [allB_map]
  exact q
theorem any_ok {ds : List D} (bs : List Bool) (h : ds = bs.map D.bl) (q : Q (.bl (bs.any id))) : φAll true [.lst ds] Q := by
  subst h
  show match allB (bs.map D.bl) with | some ns => Q (.bl (if true = true then ns.any id else ns.all id)) | none => False
  rw [allB_map]
  exact q
theorem sum_ok {ds : List D} (ns : List Int) (h : ds = ns.map D.int) (q : Q (.int ns.sum)) : φSum [.lst ds] Q := by
  unfold φSum
  subst h
  show match allI (ns.map D.int) with | some ns => Q (.int ns.sum) | none => False
  rw [allI_map]
  exact q
theorem atI_nat {α : Type} {ds : List α} {i : Nat} {d : α} (h : ds[i]? = some d) : L2.atI ds (i : Int) = some d := L2.atI_nat h
theorem ixl (i : Nat) {ds : List D} {k : Int} {d : D} (h : ds[i]? = some d) (q : Q d) (hk : k = (i : Int) := by first | rfl | omega) : φIxU (.lst ds) (.int k) Q := by
  unfold φIxU
  subst hk
  show match L2.atI ds (i : Int) with | some d => Q d | none => False
  rw [L2.atI_nat h]
  exact q
theorem ixt (i : Nat) {ds : List D} {k : Int} {d : D} (h : ds[i]? = some d) (q : Q d) (hk : k = (i : Int) := by first | rfl | omega) : φIxU (.tup ds) (.int k) Q := by
  unfold φIxU
  subst hk
  show match L2.atI ds (i : Int) with | some d => Q d | none => False
  rw [L2.atI_nat h]
  exact q
theorem ixf (i : Nat) {ds : List D} {k : Int} {d : D} (h : ds[i]? = some d) (q : Q d) (hk : k = (i : Int) := by first | rfl | omega) : φIxU (.frz ds) (.int k) Q := by
  unfold φIxU
  subst hk
  show match L2.atI ds (i : Int) with | some d => Q d | none => False
  rw [L2.atI_nat h]
  exact q
theorem ixs (i : Nat) {z : Str} {k : Int} {c : Nat} (h : z.cps.toList[i]? = some c) (hl : z.length ≤ 16777216) (q : Q (.str ⟨#[c]⟩)) (hk : k = (i : Int) := by first | rfl | omega) : φIxU (.str z) (.int k) Q := by
  unfold φIxU
  subst hk
  refine ⟨by rw [sizeLine_eq]; exact hl, ?_⟩
  show match L2.atI z.cps.toList (i : Int) with | some c => Q (.str ⟨#[c]⟩) | none => False
  rw [L2.atI_nat h]
  exact q
/-- the last of a list -/
theorem ixl_last {ds : List D} {d : D} (h : ds.getLast? = some d) (q : Q d) : φIxU (.lst ds) (.int (-1)) Q := by
  unfold φIxU
  cases hl : ds.length with
  | zero => rw [List.length_eq_zero_iff.mp hl] at h; cases h
  | succ n =>
    have e : L2.atI ds (-1) = some d := by
      unfold L2.atI
      have : ixN ds.length (-1) = some n := by
        unfold ixN
        rw [hl, if_neg (by omega), if_pos (by omega)]
        exact congrArg some (by omega)
      rw [this]
      show ds[n]? = some d
      rw [← h, List.getLast?_eq_getElem?, hl]
      rfl
    show match L2.atI ds (-1) with | some d => Q d | none => False
    rw [e]
    exact q
end
/-- the sign's part of is_name -/
def letD : D → Bool
  | .str z => match z.cps.toList with
    | [c] => isLetter c
    | _ => false
  | _ => false
theorem map_letD (s : Str) : (signs s).map (fun d => D.bl (letD d)) = (s.cps.toList.map isLetter).map D.bl := by
  unfold signs
  rw [List.map_map, List.map_map]
  rfl
/-- a pop at a drawn place -/
theorem popAt_ok {i : Nat} {env : En} {fa : Fx D} {P : D → En → Prop} {R : Err → Prop} {ds : List D} (he : env[i]? = some (.l ds)) (hf : ∀ Q' : D → Prop, (∀ r : Nat, r < ds.length → Q' (.int r)) → fa env Q' R) (hl : ds.length ≤ 100000)
    (k : ∀ r (h : r < ds.length), P ds[r] (env.set i (.l (ds.eraseIdx r)))) : wPopAt i fa env P R := by
  unfold wPopAt
  rw [he]
  refine hf _ fun r hr => ⟨⟨by omega, by omega⟩, ?_⟩
  have e1 : seqIndex? (r : Int) ds.length = some r := by
    have h0 : ¬ ((r : Int) < 0) := by omega
    simp [seqIndex?, h0, hr]
  rw [e1]
  simp only
  rw [List.getElem?_eq_getElem hr]
  exact k r hr
theorem erase_perm {α : Type} {l : List α} {r : Nat} (h : r < l.length) : (l[r] :: l.eraseIdx r).Perm l := by
  have e : l = l.take r ++ l[r] :: l.drop (r + 1) := by rw [← List.drop_eq_getElem_cons h, List.take_append_drop]
  rw [List.eraseIdx_eq_take_drop_succ]
  conv => rhs; rw [e]
  exact List.perm_middle.symm
/-- one of two, by a test -/
theorem ixl2 {b : Bool} {x y : D} {Q : D → Prop} (h : ∀ z, z = x ∨ z = y → Q z) : φIxU (.lst [x, y]) (.int (if b = true then 1 else 0)) Q := by
  cases b with
  | true => exact ixl 1 rfl (h y (.inr rfl))
  | false => exact ixl 0 rfl (h x (.inl rfl))
end Pd
set_option maxRecDepth 100000
set_option maxHeartbeats 4000000
/-! data: == of trees -/
namespace Pd
open PySem PySem.Spec PyProof.Rows L2 Pre
theorem leR {a b : Nat} (h : Nat.ble a b = true := by rfl) : a ≤ b := Nat.le_of_ble_eq_true h
mutual
def okD : D → Bool
  | .non => true | .bl _ => true | .int _ => true
  | .str s => PyData.strOk s
  | .lst ds => okA ds
  | .tup ds => okA ds
  | _ => false
def okA : List D → Bool
  | [] => true
  | d :: ds => okD d && okA ds
end
mutual
def dep : D → Nat
  | .lst ds => depA ds + 1
  | .tup ds => depA ds + 1
  | _ => 0
def depA : List D → Nat
  | [] => 0
  | d :: ds => max (dep d) (depA ds)
end
mutual
theorem toPy_ok : ∀ d : D, okD d = true → toPy d = some (py d) ∧ (py d).canLay0 = true ∧ (py d).depth = dep d
  | .non, h => ⟨rfl, rfl, rfl⟩
  | .bl _, h => ⟨rfl, rfl, rfl⟩
  | .int _, h => ⟨rfl, rfl, rfl⟩
  | .str s, h => ⟨rfl, by
      show PyData.canLay0 (.str s) = true
      simpa [PyData.canLay0, okD] using h, rfl⟩
  | .lst ds, h => by
    obtain ⟨h1, h2, h3⟩ := toPyA_ok ds (by simpa [okD] using h)
    have e : toPy (.lst ds) = some (.list (ds.map py)) := by simp [toPy, h1]
    have e2 : py (.lst ds) = .list (ds.map py) := by unfold py; rw [e]; rfl
    rw [e2]
    exact ⟨e, by simpa [PyData.canLay0] using h2, by simp [PyData.depth, dep, h3]⟩
  | .tup ds, h => by
    obtain ⟨h1, h2, h3⟩ := toPyA_ok ds (by simpa [okD] using h)
    have e : toPy (.tup ds) = some (.tuple (ds.map py)) := by simp [toPy, h1]
    have e2 : py (.tup ds) = .tuple (ds.map py) := by unfold py; rw [e]; rfl
    rw [e2]
    exact ⟨e, by simpa [PyData.canLay0] using h2, by simp [PyData.depth, dep, h3]⟩
  | .byt _, h => by simp [okD] at h
  | .dic _ _, h => by simp [okD] at h
  | .obj _ _ _, h => by simp [okD] at h
  | .hid _, h => by simp [okD] at h
  | .frz _, h => by simp [okD] at h
  | .raw _, h => by simp [okD] at h
theorem toPyA_ok : ∀ ds : List D, okA ds = true → toPyA ds = some (ds.map py) ∧ PyData.canLayAll0 (ds.map py) = true ∧ PyData.depthAll (ds.map py) = depA ds
  | [], h => ⟨by simp [toPyA], rfl, rfl⟩
  | d :: ds, h => by
    simp only [okA, Bool.and_eq_true] at h
    obtain ⟨h1, h2, h3⟩ := toPy_ok d h.1
    obtain ⟨g1, g2, g3⟩ := toPyA_ok ds h.2
    refine ⟨by simp [toPyA, h1, g1], ?_, ?_⟩
    · rw [List.map_cons]
      simp [PyData.canLayAll0, h2, g2]
    · rw [List.map_cons]
      simp [PyData.depthAll, depA, h3, g3]
end
/-- == of data -/
def eqD (x y : D) : Bool := PyData.eqv (py x) (py y)
def eqA (xs ys : List D) : Bool := PyData.eqvAll (xs.map py) (ys.map py)
theorem py_tup {ds : List D} (h : okA ds = true) : py (.tup ds) = .tuple (ds.map py) := by
  obtain ⟨h1, _, _⟩ := toPyA_ok ds h
  unfold py
  simp only [toPy, h1]
  rfl
theorem py_lst {ds : List D} (h : okA ds = true) : py (.lst ds) = .list (ds.map py) := by
  obtain ⟨h1, _, _⟩ := toPyA_ok ds h
  unfold py
  simp only [toPy, h1]
  rfl
theorem eqD_tup {xs ys : List D} (h1 : okA xs = true) (h2 : okA ys = true) : eqD (.tup xs) (.tup ys) = eqA xs ys := by
  unfold eqD
  rw [py_tup h1, py_tup h2]
  simp [PyData.eqv, eqA]
theorem eqD_lst {xs ys : List D} (h1 : okA xs = true) (h2 : okA ys = true) : eqD (.lst xs) (.lst ys) = eqA xs ys := by
  unfold eqD
  rw [py_lst h1, py_lst h2]
  simp [PyData.eqv, eqA]
theorem eqD_refl {x : D} (h : okD x = true) : eqD x x = true := SeqAt.eqv_refl _ (toPy_ok x h).2.1
theorem shaped_of {x : D} (h : okD x = true) (hd : dep x ≤ 64) : SeqAt.shaped (py x) = true := by
  obtain ⟨h1, h2, h3⟩ := toPy_ok x h
  unfold SeqAt.shaped
  rw [h2, h3, decide_eq_true hd]
  rfl
theorem flat_eqD : ∀ {x y : D}, scalD x y = true → okD x = true → okD y = true → flatEq x y = eqD x y := by
  intro x y h h1 h2
  cases x <;> cases y <;> first | (cases h; done) | rfl | (simp [okD] at h1; done)
theorem eq_ok {neg : Bool} {x y : D} {Q : D → Prop} (h1 : okD x = true) (h2 : okD y = true) (d1 : dep x ≤ 64) (d2 : dep y ≤ 64) (q : Q (.bl (if neg then !eqD x y else eqD x y))) : φEqU neg x y Q := by
  unfold φEqU
  cases hs : scalD x y with
  | true =>
    show Q (.bl (if neg then !flatEq x y else flatEq x y))
    rw [flat_eqD hs h1 h2]
    exact q
  | false =>
    show φEqD neg x y Q
    unfold φEqD
    rw [(toPy_ok x h1).1, (toPy_ok y h2).1]
    exact ⟨shaped_of h1 d1, shaped_of h2 d2, q⟩
theorem inD_strs (s : Str) (ns : List Str) : inD (.str s) (ns.map D.str) = decide (s ∈ ns) := by
  unfold inD
  rw [List.any_map, Bool.eq_iff_iff, decide_eq_true_iff, List.any_eq_true]
  constructor
  · rintro ⟨x, h1, h2⟩
    have : x = s := beq_iff_eq.mp h2
    rw [← this]
    exact h1
  · intro h
    exact ⟨s, h, beq_iff_eq.mpr rfl⟩
theorem flat_strs (ns : List Str) : (ns.map D.str).all D.flat = true := by
  rw [List.all_map]
  exact List.all_eq_true.mpr fun _ _ => rfl
theorem in_tupS {neg : Bool} {s : Str} {ns : List Str} {Q : D → Prop} (q : Q (.bl (if neg then !decide (s ∈ ns) else decide (s ∈ ns)))) : φInU neg (.str s) (.tup (ns.map D.str)) Q := by
  unfold φInU
  refine ⟨rfl, flat_strs ns, ?_⟩
  rw [inD_strs]
  exact q
theorem in_lstS {neg : Bool} {s : Str} {ns : List Str} {Q : D → Prop} (q : Q (.bl (if neg then !decide (s ∈ ns) else decide (s ∈ ns)))) : φInU neg (.str s) (.lst (ns.map D.str)) Q := by
  unfold φInU
  refine ⟨rfl, flat_strs ns, ?_⟩
  rw [inD_strs]
  exact q
theorem in_sign {neg : Bool} {c : Nat} {z : Str} {Q : D → Prop} (q : Q (.bl (if neg then !decide (c ∈ z.cps.toList) else decide (c ∈ z.cps.toList)))) : φInU neg (.str ⟨#[c]⟩) (.str z) Q := by
  unfold φInU
  exact q
theorem eq_scal {neg : Bool} {x y : D} {Q : D → Prop} (h : scalD x y = true) (q : Q (.bl (if neg then !flatEq x y else flatEq x y))) : φEqU neg x y Q := by
  unfold φEqU
  rw [h]
  exact q
theorem isN_non {neg : Bool} {Q : D → Prop} (q : Q (.bl (!neg))) : φIsN neg .non .non Q := by
  unfold φIsN
  exact q
def some1 : D → Bool
  | .non => false | .raw _ => false
  | _ => true
theorem isN_not {neg : Bool} {x : D} {Q : D → Prop} (h : some1 x = true) (q : Q (.bl neg)) : φIsN neg x .non Q := by
  unfold φIsN
  cases x <;> first | exact q | (cases h; done)
theorem eqi {neg : Bool} {i j : Int} {Q : D → Prop} (q : Q (.bl (if neg then !decide (i = j) else decide (i = j)))) : φEqU neg (.int i) (.int j) Q := eq_ok rfl rfl leR leR (by
  have e : eqD (.int i) (.int j) = decide (i = j) := by
    show (i == j) = _
    rw [Bool.eq_iff_iff, beq_iff_eq, decide_eq_true_iff]
  rw [e]
  exact q)
theorem map_str_at {ns : List Str} {i : Nat} {d : D} (h : (ns.map D.str)[i]? = some d) : ∃ s, ns[i]? = some s ∧ d = .str s := by
  rw [List.getElem?_map] at h
  cases hp : ns[i]? with
  | none => rw [hp] at h; cases h
  | some p => rw [hp] at h; cases h; exact ⟨p, rfl, rfl⟩
theorem map_at {α : Type} {f : α → D} {ns : List α} {i : Nat} {d : D} (h : (ns.map f)[i]? = some d) : ∃ s, ns[i]? = some s ∧ d = f s := by
  rw [List.getElem?_map] at h
  cases hp : ns[i]? with
  | none => rw [hp] at h; cases h
  | some p => rw [hp] at h; cases h; exact ⟨p, rfl, rfl⟩
theorem at_map {α : Type} {f : α → D} {ns : List α} {i : Nat} {s : α} (h : ns[i]? = some s) : (ns.map f)[i]? = some (f s) := by
  rw [List.getElem?_map, h]
  rfl
end Pd
set_option maxRecDepth 100000
set_option maxHeartbeats 4000000
/-! sorting of texts, of rows by their names; texts put together -/
namespace Pd
open PySem PySem.Spec PyProof.Rows L2 Pre
theorem leD_trans (a b c : D) (h1 : leD a b = true) (h2 : leD b c = true) : leD a c = true := by
  unfold leD ltD PySem.W.dataLt at *
  cases h : PyProof.Rows.lexLt itemOrd (PySem.W.keyToks (py c)) (PySem.W.keyToks (py a)) with
  | false => rfl
  | true =>
    rcases lex_negTrans (O := itemOrd) _ (PySem.W.keyToks (py b)) _ h with q | q
    · rw [q] at h2; cases h2
    · rw [q] at h1; cases h1
theorem leD_total (a b : D) : (leD a b || leD b a) = true := by
  unfold leD ltD PySem.W.dataLt
  cases h : PyProof.Rows.lexLt itemOrd (PySem.W.keyToks (py b)) (PySem.W.keyToks (py a)) with
  | false => rfl
  | true =>
    cases h' : PyProof.Rows.lexLt itemOrd (PySem.W.keyToks (py a)) (PySem.W.keyToks (py b)) with
    | false => rfl
    | true =>
      have := lex_trans (O := itemOrd) _ _ _ h h'
      rw [lex_irrefl] at this
      cases this
theorem ltD_str (a b : Str) : ltD (.str a) (.str b) = sLt a b := PySem.W.dataLt_str a b
theorem perm_map {α : Type} {f : α → D} : ∀ {l : List D} {xs : List α}, l.Perm (xs.map f) → ∃ ys : List α, ys.Perm xs ∧ ys.map f = l := by
  intro l xs h
  generalize hm : xs.map f = m at h
  induction h generalizing xs with
  | nil =>
    have : xs = [] := List.map_eq_nil_iff.mp hm
    subst this
    exact ⟨[], .nil, rfl⟩
  | cons d h ih =>
    cases xs with
    | nil => cases hm
    | cons x xs =>
      simp only [List.map_cons, List.cons.injEq] at hm
      obtain ⟨rfl, hm⟩ := hm
      obtain ⟨ys, h1, h2⟩ := ih hm
      exact ⟨x :: ys, h1.cons x, by rw [List.map_cons, h2]⟩
  | swap a b l =>
    cases xs with
    | nil => cases hm
    | cons x xs =>
      cases xs with
      | nil => simp at hm
      | cons y xs =>
        simp only [List.map_cons, List.cons.injEq] at hm
        obtain ⟨rfl, rfl, rfl⟩ := hm
        exact ⟨y :: x :: xs, .swap _ _ _, rfl⟩
  | trans _ _ ih1 ih2 =>
    obtain ⟨zs, h1, h2⟩ := ih2 hm
    obtain ⟨ys, h3, h4⟩ := ih1 h2
    exact ⟨ys, h3.trans h1, h4⟩
/-- things with distinct names, sorted where a name is what is compared first -/
theorem sorted_by_mem {α : Type} (f : α → D) (n : α → Str) {xs : List α} (hf : ∀ a ∈ xs, ∀ b ∈ xs, n a ≠ n b → ltD (f a) (f b) = sLt (n a) (n b)) (hn : (xs.map n).Nodup) (ok : sortOk (xs.map f)) {Q : List D → Prop} (q : ∀ ys : List α, ys.Perm xs → (ys.map n).Pairwise (fun a b => sLt a b = true) → Q (ys.map f)) : φSorted [.lst (xs.map f)] Q := by
  unfold φSorted
  refine ⟨ok, ?_⟩
  have hp := List.mergeSort_perm (xs.map f) leD
  have hs := List.pairwise_mergeSort (le := leD) leD_trans leD_total (xs.map f)
  obtain ⟨ys, h1, h2⟩ := perm_map hp
  rw [← h2] at hs ⊢
  refine q ys h1 ?_
  have nd : (ys.map n).Nodup := (h1.map n).nodup_iff.mpr hn
  rw [List.pairwise_map] at hs ⊢
  rw [List.nodup_iff_pairwise_ne, List.pairwise_map] at nd
  refine List.Pairwise.imp_of_mem ?_ (hs.and nd)
  intro a b ma mb ⟨h3, h4⟩
  have h5 : ltD (f b) (f a) = false := by
    have : leD (f a) (f b) = true := h3
    unfold leD at this
    simpa using this
  rw [hf b (h1.mem_iff.mp mb) a (h1.mem_iff.mp ma) (Ne.symm h4)] at h5
  cases h6 : sLt (n a) (n b) with
  | true => rfl
  | false => exact absurd (sLt_tri h6 h5) h4
theorem sortOk_strs {ws : List Str} : sortOk (ws.map D.str) := by
  refine ⟨fun d hd => ?_, fun a ha b hb => ?_, .inr fun d hd => ?_⟩
  · obtain ⟨s, _, rfl⟩ := List.mem_map.mp hd
    exact ⟨.str s, rfl, Nat.zero_le _⟩
  · obtain ⟨x, hx, rfl⟩ := List.mem_map.mp ha
    obtain ⟨y, hy, rfl⟩ := List.mem_map.mp hb
    obtain ⟨s, _, rfl⟩ := List.mem_map.mp hx
    obtain ⟨t, _, rfl⟩ := List.mem_map.mp hy
    rfl
  · obtain ⟨x, hx, rfl⟩ := List.mem_map.mp hd
    obtain ⟨s, _, rfl⟩ := List.mem_map.mp hx
    exact ⟨(fun h => nomatch h), (fun xs h => nomatch h)⟩
theorem sorted_strs {ws : List Str} (hn : ws.Nodup) {Q : List D → Prop} (q : ∀ ns : List Str, ns.Perm ws → ns.Pairwise (fun a b => sLt a b = true) → Q (ns.map D.str)) : φSorted [.lst (ws.map D.str)] Q :=
  sorted_by_mem D.str id (fun a _ b _ _ => ltD_str a b) (by simpa using hn) sortOk_strs fun ys h1 h2 => q ys h1 (by simpa using h2)
/-! ### texts -/
theorem cps_app (a b : Str) : (a ++ b).cps.toList = a.cps.toList ++ b.cps.toList := by
  show (a.cps ++ b.cps).toList = _
  simp
theorem join_empty : ∀ cs : List Nat, (Txt.join ("" : Str) (cs.map fun c => (⟨#[c]⟩ : Str))).cps.toList = cs
  | [] => rfl
  | [c] => rfl
  | c :: d :: cs => by
    have ih := join_empty (d :: cs)
    rw [TL.join_eq] at ih ⊢
    show ((⟨#[c]⟩ : Str) ++ ("" : Str) ++ Str.join "" ((d :: cs).map fun c => (⟨#[c]⟩ : Str))).cps.toList = _
    rw [cps_app, cps_app, ih]
    rfl
theorem join_ok {s : Str} {ss : List Str} {Q : D → Prop} (h : (ss.map (·.length)).sum + ss.length * s.length ≤ 16777216) (q : Q (.str (Txt.join s ss))) : φJoin (.str s) (.lst (ss.map D.str)) Q := by
  unfold φJoin
  show match allS (ss.map D.str) with | some ys => (ys.map (·.length)).sum + ys.length * s.length ≤ 16777216 ∧ Q (.str (Txt.join s ys)) | none => False
  rw [allS_map]
  exact ⟨h, q⟩
theorem signs_of {ys : List D} (h : ∀ (i : Nat) y, ys[i]? = some y → ∃ c, isLetter c = true ∧ y = .str ⟨#[c]⟩) : ∃ cs : List Nat, ys = (cs.map fun c => (⟨#[c]⟩ : Str)).map D.str ∧ ∀ c ∈ cs, isLetter c = true := by
  induction ys with
  | nil => exact ⟨[], rfl, by simp⟩
  | cons y ys ih =>
    obtain ⟨c, hc, rfl⟩ := h 0 y rfl
    obtain ⟨cs, h1, h2⟩ := ih fun i y hy => h (i + 1) y (by simpa using hy)
    exact ⟨c :: cs, by rw [h1]; rfl, by simp [hc, h2]; exact h2⟩
theorem name_of {s : Str} {cs : List Nat} (h : s.cps.toList = cs) (h1 : 1 ≤ cs.length) (h2 : cs.length ≤ 8) (h3 : ∀ c ∈ cs, isLetter c = true) : isName s = true := by
  have hl : s.length = cs.length := by rw [len_cps, h]
  unfold isName
  rw [hl, decide_eq_true h1, decide_eq_true h2, h, List.all_eq_true.mpr h3]
  rfl
theorem repT_cps (c : Nat) (n : Nat) (hn : 1 ≤ n) : (repT ⟨#[c]⟩ (n : Int)).cps.toList = List.replicate n c := by
  unfold repT
  rw [if_neg (by omega)]
  by_cases h : n = 1
  · subst h
    rw [if_pos (by simp)]
    rfl
  · rw [if_neg (by rw [not_or]; exact ⟨by omega, fun z => nomatch z⟩)]
    show (Lg.repS ⟨#[c]⟩ n).cps.toList = _
    unfold Lg.repS
    have key : ∀ (n : Nat) (acc : Array Nat), ((List.replicate n (#[c] : Array Nat)).foldl (· ++ ·) acc).toList = acc.toList ++ List.replicate n c := by
      intro n
      induction n with
      | zero => intro acc; simp
      | succ n ih =>
        intro acc
        rw [List.replicate_succ, List.foldl_cons, ih, List.replicate_succ]
        simp
    simpa using key n #[]
theorem cutS_lo (z : Str) (k : Nat) (h : k ≤ z.length) : (cutS z none (some (k : Int))).cps.toList = z.cps.toList.take k := by
  unfold cutS
  have e1 : HT.sIx z.length 0 none = 0 := rfl
  have e2 : HT.sIx z.length z.length (some (k : Int)) = k := by
    rw [HT.sIx_nat]
    omega
  rw [e1, e2]
  simp
theorem cutS_hi (z : Str) (k : Nat) (h : k ≤ z.length) : (cutS z (some (k : Int)) none).cps.toList = z.cps.toList.drop k := by
  unfold cutS
  have e1 : HT.sIx z.length 0 (some (k : Int)) = k := by
    rw [HT.sIx_nat]
    omega
  have e2 : HT.sIx z.length z.length none = z.length := rfl
  rw [e1, e2]
  have e3 : (z.cps.toList.drop k).length ≤ z.length - k := by rw [List.length_drop, len_cps]; omega
  show ((z.cps.toList.drop k).take (z.length - k)).toArray.toList = _
  rw [List.take_of_length_le e3]
theorem cutS_len (z : Str) (lo hi : Option Int) : (cutS z lo hi).length ≤ z.length := by
  show ((z.cps.toList.drop (HT.sIx z.length 0 lo)).take (HT.sIx z.length z.length hi - HT.sIx z.length 0 lo)).toArray.size ≤ z.cps.size
  simp
  omega
theorem range_at {n i : Nat} {d : D} (h : (rangeD 0 n)[i]? = some d) : i < n ∧ d = .int (i : Int) := by
  have hi : i < n := by have := get_lt h; rw [rangeD, List.length_map, List.length_range] at this; exact this
  rw [rangeD, List.getElem?_map, List.getElem?_range hi] at h
  have := Option.some.inj h
  exact ⟨hi, by rw [← this]; show D.int (0 + (i : Int)) = _; rw [Int.zero_add]⟩
theorem range_len (n : Nat) : (rangeD 0 n).length = n := by rw [rangeD, List.length_map, List.length_range]
theorem choose_list {α β : Type} (f : α → D) (n : α → β) (ok : α → Prop) : ∀ {ys : List D} {ns : List β}, ys.length = ns.length → (∀ (i : Nat) y, ys[i]? = some y → ∃ a, ns[i]? = some (n a) ∧ ok a ∧ y = f a) → ∃ as : List α, ys = as.map f ∧ as.map n = ns ∧ ∀ a ∈ as, ok a
  | [], [], _, _ => ⟨[], rfl, rfl, by simp⟩
  | [], _ :: _, h, _ => by simp at h
  | _ :: _, [], h, _ => by simp at h
  | y :: ys, m :: ns, h, hy => by
    obtain ⟨a, h1, h2, rfl⟩ := hy 0 y rfl
    have h1 : m = n a := by simpa using h1
    obtain ⟨as, e1, e2, e3⟩ := choose_list f n ok (ys := ys) (ns := ns) (by simpa using h) fun i y hi => by simpa using hy (i + 1) y (by simpa using hi)
    refine ⟨a :: as, by rw [List.map_cons, ← e1], by rw [List.map_cons, e2, h1], fun b hb => ?_⟩
    rcases List.mem_cons.mp hb with rfl | hb
    · exact h2
    · exact e3 b hb
/-- a for over something drawn -/
theorem for_go {fi : Fx (List D)} {s : Tg} {body : Fs} {env : En} {P : Out → Prop} (Dk : List D → Prop) (hi : ∀ (Q : List D → Prop) R, (∀ ds, Dk ds → Q ds) → fi env Q R) (k : ∀ ds, Dk ds → wLoop s body ds env P) : wFor fi s body env P := by
  unfold wFor
  exact hi _ _ k
theorem loop0 {s : Tg} {body : Fs} {env : En} {P : Out → Prop} {ds : List D} (Inv : Nat → En → Prop) (h0 : Inv 0 env)
    (step : ∀ i d e0 (Q : Out → Prop), ds[i]? = some d → Inv i e0 → LpQ P (Inv (i + 1)) Q → ∃ e, s d e0 = some e ∧ body e Q) (fin : ∀ e, Inv ds.length e → P (.nx e)) : wLoop s body ds env P :=
  loop_inv Inv ds 0 env h0 (fun i d e0 Q hd h hq => step i d e0 Q hd (by simpa using h) (by simpa using hq)) (by simpa using fin)
end Pd
set_option maxRecDepth 100000
set_option maxHeartbeats 1000000
/-! dicts of texts to numbers: adding up by names -/
namespace Pd
open PySem PySem.Spec PyProof.Rows L2 Pre
abbrev Ms := List (Str × Int)
def kOf (m : Ms) : List Key := m.map fun p => Sum.inr p.1
def vOf (m : Ms) : List D := m.map fun p => D.int p.2
/-- what a name has, 0 if nothing -/
def at0 (m : Ms) (s : Str) : Int := match m with
  | [] => 0
  | p :: m => if p.1 = s then p.2 else at0 m s
def has (m : Ms) (s : Str) : Bool := m.any fun p => decide (p.1 = s)
theorem dget_at (m : Ms) (s : Str) : (dget (kOf m) (vOf m) (.inr s)).getD (.int 0) = .int (at0 m s) := by
  induction m with
  | nil => rfl
  | cons p m ih =>
    show (if (Sum.inr p.1 : Key) = .inr s then some (D.int p.2) else dget (kOf m) (vOf m) (.inr s)).getD (.int 0) = .int (if p.1 = s then p.2 else at0 m s)
    by_cases h : p.1 = s
    · rw [if_pos (by rw [h]), if_pos h]; rfl
    · rw [if_neg (fun e => h (by injection e)), if_neg h]; exact ih
theorem dget_has {m : Ms} {s : Str} (h : has m s = true) : dget (kOf m) (vOf m) (.inr s) = some (.int (at0 m s)) := by
  induction m with
  | nil => cases h
  | cons p m ih =>
    show (if (Sum.inr p.1 : Key) = .inr s then some (D.int p.2) else dget (kOf m) (vOf m) (.inr s)) = some (.int (if p.1 = s then p.2 else at0 m s))
    by_cases q : p.1 = s
    · rw [if_pos (by rw [q]), if_pos q]
    · rw [if_neg (fun e => q (by injection e)), if_neg q]
      refine ih ?_
      have : (decide (p.1 = s) || has m s) = true := h
      rw [decide_eq_false q, Bool.false_or] at this
      exact this
def put (m : Ms) (s : Str) (v : Int) : Ms := if has m s = true then m.map (fun p => if p.1 = s then (p.1, v) else p) else m ++ [(s, v)]
theorem dput_put (m : Ms) (s : Str) (v : Int) : dput (kOf m) (vOf m) (.inr s) (.int v) = (kOf (put m s v), vOf (put m s v)) := by
  have hany : ((kOf m).any fun k' => decide (k' = .inr s)) = has m s := by
    unfold kOf has
    rw [List.any_map]
    congr 1
    funext p
    show decide ((Sum.inr p.1 : Key) = .inr s) = decide (p.1 = s)
    by_cases q : p.1 = s
    · rw [decide_eq_true q, decide_eq_true (by rw [q])]
    · rw [decide_eq_false q, decide_eq_false (fun e => q (by injection e))]
  unfold dput put
  rw [hany]
  by_cases h : has m s = true
  · rw [if_pos h, if_pos h]
    refine Prod.ext ?_ ?_
    · show kOf m = kOf _
      unfold kOf
      rw [List.map_map]
      apply List.map_congr_left
      intro p _
      show (Sum.inr p.1 : Key) = Sum.inr (if p.1 = s then (p.1, v) else p).1
      split <;> rfl
    · show List.zipWith _ (kOf m) (vOf m) = vOf _
      clear h hany
      induction m with
      | nil => rfl
      | cons p m ih =>
        show (if (Sum.inr p.1 : Key) = .inr s then D.int v else D.int p.2) :: List.zipWith _ (kOf m) (vOf m) = D.int (if p.1 = s then (p.1, v) else p).2 :: vOf (m.map fun p => if p.1 = s then (p.1, v) else p)
        rw [ih]
        by_cases q : p.1 = s
        · rw [if_pos (by rw [q]), if_pos q]
        · rw [if_neg (fun e => q (by injection e)), if_neg q]
  · rw [if_neg h, if_neg h]
    unfold kOf vOf
    rw [List.map_append, List.map_append]
    rfl
theorem at0_put (m : Ms) (s t : Str) (v : Int) : at0 (put m s v) t = if t = s then v else at0 m t := by
  unfold put
  by_cases h : has m s = true
  · rw [if_pos h]
    induction m with
    | nil => cases h
    | cons p m ih =>
      rw [List.map_cons]
      show (if (if p.1 = s then (p.1, v) else p).1 = t then (if p.1 = s then (p.1, v) else p).2 else at0 (m.map fun p => if p.1 = s then (p.1, v) else p) t) = if t = s then v else (if p.1 = t then p.2 else at0 m t)
      by_cases q : p.1 = s
      · rw [if_pos q]
        by_cases e : p.1 = t
        · rw [if_pos e, if_pos (e.symm.trans q)]
        · rw [if_neg e, if_neg (fun z => e (q.trans z.symm)), if_neg e]
          have ne : t ≠ s := fun z => e (q.trans z.symm)
          by_cases h2 : has m s = true
          · have := ih h2
            rw [if_neg ne] at this
            exact this
          · have : (m.map fun p => if p.1 = s then (p.1, v) else p) = m := by
              conv => rhs; rw [← List.map_id m]
              apply List.map_congr_left
              intro x hx
              rw [if_neg fun z => h2 (List.any_eq_true.mpr ⟨x, hx, decide_eq_true z⟩)]
              rfl
            rw [this]
      · rw [if_neg q]
        have h2 : has m s = true := by
          have : (decide (p.1 = s) || has m s) = true := h
          rw [decide_eq_false q, Bool.false_or] at this
          exact this
        rw [ih h2]
        by_cases e : p.1 = t
        · rw [if_pos e, if_pos e, if_neg (fun z => q (e.trans z))]
        · rw [if_neg e, if_neg e]
  · rw [if_neg h]
    have ns : at0 m s = 0 := by
      clear v t
      induction m with
      | nil => rfl
      | cons p m ih =>
        show (if p.1 = s then p.2 else at0 m s) = 0
        have h' : ¬ (decide (p.1 = s) || has m s) = true := h
        rw [Bool.or_eq_true, not_or] at h'
        rw [if_neg (fun z => h'.1 (decide_eq_true z))]
        exact ih h'.2
    have key : ∀ m : Ms, ¬ has m s = true → at0 (m ++ [(s, v)]) t = if t = s then v else at0 m t := by
      intro m
      induction m with
      | nil =>
        intro _
        show (if s = t then v else 0) = if t = s then v else 0
        by_cases e : s = t
        · rw [if_pos e, if_pos e.symm]
        · rw [if_neg e, if_neg (Ne.symm e)]
      | cons p m ih =>
        intro h
        have h' : ¬ (decide (p.1 = s) || has m s) = true := h
        rw [Bool.or_eq_true, not_or] at h'
        have hp : p.1 ≠ s := fun z => h'.1 (decide_eq_true z)
        show (if p.1 = t then p.2 else at0 (m ++ [(s, v)]) t) = if t = s then v else (if p.1 = t then p.2 else at0 m t)
        rw [ih h'.2]
        by_cases e : p.1 = t
        · rw [if_pos e, if_pos e, if_neg (fun z => hp (e.trans z))]
        · rw [if_neg e, if_neg e]
    exact key m h
theorem names_put (m : Ms) (s : Str) (v : Int) : (put m s v).map (·.1) = if has m s = true then m.map (·.1) else m.map (·.1) ++ [s] := by
  unfold put
  by_cases h : has m s = true
  · rw [if_pos h, if_pos h, List.map_map]
    apply List.map_congr_left
    intro p _
    show (if p.1 = s then (p.1, v) else p).1 = p.1
    split <;> rfl
  · rw [if_neg h, if_neg h, List.map_append]
    rfl
theorem has_iff {m : Ms} {s : Str} : has m s = true ↔ s ∈ m.map (·.1) := by
  unfold has
  rw [List.any_eq_true, List.mem_map]
  exact ⟨fun ⟨p, h1, h2⟩ => ⟨p, h1, of_decide_eq_true h2⟩, fun ⟨p, h1, h2⟩ => ⟨p, h1, decide_eq_true h2⟩⟩
/-- two strictly ascending lists of the same things are the same -/
theorem asc_uniq : ∀ {a b : List Str}, a.Pairwise (fun x y => sLt x y = true) → b.Pairwise (fun x y => sLt x y = true) → (∀ s, s ∈ a ↔ s ∈ b) → a = b
  | [], [], _, _, _ => rfl
  | [], y :: b, _, _, h => absurd ((h y).mpr List.mem_cons_self) (by simp)
  | x :: a, [], _, _, h => absurd ((h x).mp List.mem_cons_self) (by simp)
  | x :: a, y :: b, ha, hb, h => by
    rw [List.pairwise_cons] at ha hb
    have exy : x = y := by
      rcases List.mem_cons.mp ((h x).mp List.mem_cons_self) with e | m
      · exact e
      · rcases List.mem_cons.mp ((h y).mpr List.mem_cons_self) with e | m'
        · exact e.symm
        · have h1 := hb.1 x m
          have h2 := ha.1 y m'
          have := sLt_trans h1 h2
          rw [sLt_irrefl] at this
          cases this
    subst exy
    refine congrArg (x :: ·) (asc_uniq ha.2 hb.2 fun s => ?_)
    constructor
    · intro hs
      rcases List.mem_cons.mp ((h s).mp (List.mem_cons_of_mem _ hs)) with e | m
      · have := ha.1 s hs
        rw [e, sLt_irrefl] at this
        cases this
      · exact m
    · intro hs
      rcases List.mem_cons.mp ((h s).mpr (List.mem_cons_of_mem _ hs)) with e | m
      · have := hb.1 s hs
        rw [e, sLt_irrefl] at this
        cases this
      · exact m
theorem dacc_ok {i ik iv : Nat} {env : En} {m : Ms} {s : Str} {v : Int} {P : Out → Prop} (he : env[i]? = some (.k (kOf m) (vOf m))) (hk : env[ik]? = some (.v (.str s))) (hv : env[iv]? = some (.v (.int v))) (hl : m.length < 10000)
    (k : P (.nx (env.set i (.k (kOf (put m s (at0 m s + v))) (vOf (put m s (at0 m s + v))))))) : wDPut i (wVar ik) (wOp φAdd (wDGet i (wVar ik) (wC (.int 0))) (wVar iv)) env P := by
  have e1 : envDic env i = some (kOf m, vOf m) := by unfold envDic; rw [he]
  unfold wDPut wOp wDGet wVar wC
  simp only [e1, hk, hv, he, keyOf]
  rw [dget_at]
  simp only [φAdd, dput_put]
  exact ⟨by unfold kOf; rw [List.length_map, sizeLine_eq]; omega, k⟩
def tot : Ms → Str → Int
  | [], _ => 0
  | p :: l, s => (if p.1 = s then p.2 else 0) + tot l s
theorem tot_app (a b : Ms) (s : Str) : tot (a ++ b) s = tot a s + tot b s := by
  induction a with
  | nil => show tot b s = 0 + tot b s; omega
  | cons p a ih =>
    show (if p.1 = s then p.2 else 0) + tot (a ++ b) s = (if p.1 = s then p.2 else 0) + tot a s + tot b s
    rw [ih]
    omega
/-- m has added up l -/
structure Upto (l : Ms) (m : Ms) : Prop where
  nd : (m.map (·.1)).Nodup
  mem : ∀ s, s ∈ m.map (·.1) ↔ s ∈ l.map (·.1)
  val : ∀ s, at0 m s = tot l s
theorem upto_nil : Upto [] [] := ⟨List.nodup_nil, fun _ => Iff.rfl, fun _ => rfl⟩
theorem Upto.step {l m : Ms} (u : Upto l m) (p : Str × Int) : Upto (l ++ [p]) (put m p.1 (at0 m p.1 + p.2)) where
  nd := by
    rw [names_put]
    by_cases h : has m p.1 = true
    · rw [if_pos h]; exact u.nd
    · rw [if_neg h, List.nodup_append]
      refine ⟨u.nd, by simp, fun a ha b hb e => ?_⟩
      rw [List.mem_singleton.mp hb] at e
      rw [e] at ha
      exact h (has_iff.mpr ha)
  mem := fun s => by
    rw [names_put, List.map_append, List.mem_append]
    show _ ↔ s ∈ l.map (·.1) ∨ s ∈ [p.1]
    by_cases h : has m p.1 = true
    · rw [if_pos h, u.mem]
      constructor
      · exact .inl
      · rintro (q | q)
        · exact q
        · rw [List.mem_singleton.mp q]
          exact (u.mem _).mp (has_iff.mp h)
    · rw [if_neg h, List.mem_append, u.mem]
  val := fun s => by
    rw [at0_put, tot_app, ← u.val s]
    show _ = at0 m s + ((if p.1 = s then p.2 else 0) + 0)
    by_cases e : s = p.1
    · subst e
      rw [if_pos rfl, if_pos rfl]
      omega
    · rw [if_neg e, if_neg (Ne.symm e)]
      omega
theorem lt_cps (a b : Str) : ltCps a.cps.toList b.cps.toList = sLt a b := by
  unfold sLt
  first | exact ltCps_eq _ _ | exact ltCps_decide _ _ | rfl | simp
theorem rising_all : ∀ (l : List Str) (p : Str), PyProof.Rows.risingS p l = true → (∀ x ∈ l, sLt x p = false) ∧ l.Pairwise (fun a b => sLt b a = false)
  | [], p, _ => ⟨by simp, .nil⟩
  | x :: l, p, h => by
    unfold PyProof.Rows.risingS at h
    rw [Bool.and_eq_true, lt_cps] at h
    have h1 : sLt x p = false := by simpa using h.1
    obtain ⟨h2, h3⟩ := rising_all l x h.2
    refine ⟨fun y hy => ?_, List.pairwise_cons.mpr ⟨h2, h3⟩⟩
    rcases List.mem_cons.mp hy with rfl | hy
    · exact h1
    · cases q : sLt y p with
      | false => rfl
      | true =>
        have a := h2 y hy
        cases r : sLt p x with
        | true =>
          have := sLt_trans q r
          rw [a] at this
          cases this
        | false =>
          have := sLt_tri h1 r
          rw [this, q] at a
          cases a
theorem asc_sortedS {ns : List Str} (nd : ns.Nodup) (h : PyProof.Rows.sortedS ns = true) : ns.Pairwise (fun a b => sLt a b = true) := by
  cases ns with
  | nil => exact .nil
  | cons x l =>
    obtain ⟨h1, h2⟩ := rising_all l x h
    have hp : (x :: l).Pairwise (fun a b => sLt b a = false) := List.pairwise_cons.mpr ⟨h1, h2⟩
    rw [List.nodup_iff_pairwise_ne] at nd
    refine (hp.and nd).imp fun {a b} ⟨h3, h4⟩ => ?_
    cases q : sLt a b with
    | true => rfl
    | false => exact absurd (sLt_tri q h3) h4
end Pd
set_option maxRecDepth 100000
set_option maxHeartbeats 4000000
namespace K09
open PySem PySem.Spec PyProof.Rows L2 Pre Pd
def topS (i : Nat) : Stmt := PySem.Challenge.pw_caseshome_k09_rows_of_runs_and_their_sum.main.body.getD i (.Pass ⟨0, 0, 0, 0⟩)
abbrev s_is_integer : Stmt := topS 3
abbrev s_is_count : Stmt := topS 4
abbrev s_is_name : Stmt := topS 5
abbrev s_is_pair : Stmt := topS 6
abbrev s_first_wrong : Stmt := topS 13
abbrev s_is_heap : Stmt := topS 14
abbrev s_added_up : Stmt := topS 15
abbrev s_amount : Stmt := topS 16
abbrev s_gap : Stmt := topS 17
abbrev s_changes_joined : Stmt := topS 18
abbrev s_change_times : Stmt := topS 19
abbrev s_need_places : Stmt := topS 23
abbrev s_need_steps : Stmt := topS 24
abbrev s_is_step : Stmt := topS 25
abbrev s_is_side : Stmt := topS 26
abbrev s_step_of : Stmt := topS 27
abbrev s_step_change : Stmt := topS 28
abbrev s_names_of : Stmt := topS 29
abbrev s_need_run : Stmt := topS 31
abbrev s_first_wrong_row : Stmt := topS 32
abbrev s_run_sum : Stmt := topS 33
abbrev s_sum_change : Stmt := topS 34
abbrev s_steps_in : Stmt := topS 35
abbrev s_folded : Stmt := topS 36
abbrev s_law_box : Stmt := topS 38
abbrev s_law_take : Stmt := topS 39
abbrev s_law_pick : Stmt := topS 40
abbrev s_law_mixed : Stmt := topS 41
abbrev s_law_same : Stmt := topS 42
abbrev s_law_names : Stmt := topS 43
abbrev s_law_heap : Stmt := topS 44
abbrev s_law_plan : Stmt := topS 45
abbrev s_law_strange : Stmt := topS 46
abbrev s_law_times : Stmt := topS 47
abbrev s_law_run : Stmt := topS 48
abbrev s_law_none : Stmt := topS 49
abbrev s_law_said : Stmt := topS 50
abbrev s_law_needs_hold : Stmt := topS 51
abbrev s_law_sum : Stmt := topS 52
abbrev s_law_folded : Stmt := topS 53
abbrev s_law_change : Stmt := topS 54
abbrev s_law : Stmt := topS 55
theorem sc_is_integer : FnScope ["value"] ["value"] (defScope s_is_integer) := ⟨rfl, rfl, rfl, by decide +kernel, rfl, by decide +kernel, by decide +kernel⟩
theorem sc_is_count : FnScope ["value"] ["value"] (defScope s_is_count) := ⟨rfl, rfl, rfl, by decide +kernel, rfl, by decide +kernel, by decide +kernel⟩
theorem sc_is_name : FnScope ["value", "letter"] ["value"] (defScope s_is_name) := ⟨rfl, rfl, rfl, by decide +kernel, rfl, by decide +kernel, by decide +kernel⟩
theorem sc_is_pair : FnScope ["value"] ["value"] (defScope s_is_pair) := ⟨rfl, rfl, rfl, by decide +kernel, rfl, by decide +kernel, by decide +kernel⟩
theorem sc_first_wrong : FnScope ["value", "is_right", "at", "pair"] ["value", "is_right"] (defScope s_first_wrong) := ⟨rfl, rfl, rfl, by decide +kernel, rfl, by decide +kernel, by decide +kernel⟩
theorem sc_is_heap : FnScope ["value"] ["value"] (defScope s_is_heap) := ⟨rfl, rfl, rfl, by decide +kernel, rfl, by decide +kernel, by decide +kernel⟩
theorem sc_added_up : FnScope ["pairs", "totals", "place", "number"] ["pairs"] (defScope s_added_up) := ⟨rfl, rfl, rfl, by decide +kernel, rfl, by decide +kernel, by decide +kernel⟩
theorem sc_amount : FnScope ["heap", "place", "name", "number"] ["heap", "place"] (defScope s_amount) := ⟨rfl, rfl, rfl, by decide +kernel, rfl, by decide +kernel, by decide +kernel⟩
theorem sc_gap : FnScope ["heap", "other"] ["heap", "other"] (defScope s_gap) := ⟨rfl, rfl, rfl, by decide +kernel, rfl, by decide +kernel, by decide +kernel⟩
theorem sc_changes_joined : FnScope ["changes", "change", "pair"] ["changes"] (defScope s_changes_joined) := ⟨rfl, rfl, rfl, by decide +kernel, rfl, by decide +kernel, by decide +kernel⟩
theorem sc_change_times : FnScope ["change", "number", "place", "shift"] ["change", "number"] (defScope s_change_times) := ⟨rfl, rfl, rfl, by decide +kernel, rfl, by decide +kernel, by decide +kernel⟩
theorem sc_need_places : FnScope ["places", "at", "place"] ["places"] (defScope s_need_places) := ⟨rfl, rfl, rfl, by decide +kernel, rfl, by decide +kernel, by decide +kernel⟩
theorem sc_need_steps : FnScope ["places", "steps", "start", "end", "at", "step"] ["places", "steps", "start", "end"] (defScope s_need_steps) := ⟨rfl, rfl, rfl, by decide +kernel, rfl, by decide +kernel, by decide +kernel⟩
theorem sc_is_step : FnScope ["places", "step", "start", "end"] ["places", "step", "start", "end"] (defScope s_is_step) := ⟨rfl, rfl, rfl, by decide +kernel, rfl, by decide +kernel, by decide +kernel⟩
theorem sc_is_side : FnScope ["places", "heap", "place", "number"] ["places", "heap"] (defScope s_is_side) := ⟨rfl, rfl, rfl, by decide +kernel, rfl, by decide +kernel, by decide +kernel⟩
theorem sc_step_of : FnScope ["plan", "name", "step"] ["plan", "name"] (defScope s_step_of) := ⟨rfl, rfl, rfl, by decide +kernel, rfl, by decide +kernel, by decide +kernel⟩
theorem sc_step_change : FnScope ["plan", "name", "step"] ["plan", "name"] (defScope s_step_change) := ⟨rfl, rfl, rfl, by decide +kernel, rfl, by decide +kernel, by decide +kernel⟩
theorem sc_names_of : FnScope ["plan", "step"] ["plan"] (defScope s_names_of) := ⟨rfl, rfl, rfl, by decide +kernel, rfl, by decide +kernel, by decide +kernel⟩
theorem sc_need_run : FnScope ["plan", "value", "at"] ["plan", "value"] (defScope s_need_run) := ⟨rfl, rfl, rfl, by decide +kernel, rfl, by decide +kernel, by decide +kernel⟩
theorem sc_first_wrong_row : FnScope ["plan", "value", "names", "at", "row"] ["plan", "value"] (defScope s_first_wrong_row) := ⟨rfl, rfl, rfl, by decide +kernel, rfl, by decide +kernel, by decide +kernel⟩
theorem sc_run_sum : FnScope ["run"] ["run"] (defScope s_run_sum) := ⟨rfl, rfl, rfl, by decide +kernel, rfl, by decide +kernel, by decide +kernel⟩
theorem sc_sum_change : FnScope ["plan", "steps", "name", "number"] ["plan", "steps"] (defScope s_sum_change) := ⟨rfl, rfl, rfl, by decide +kernel, rfl, by decide +kernel, by decide +kernel⟩
theorem sc_steps_in : FnScope ["run", "_", "number"] ["run"] (defScope s_steps_in) := ⟨rfl, rfl, rfl, by decide +kernel, rfl, by decide +kernel, by decide +kernel⟩
theorem sc_folded : FnScope ["run", "rows", "name", "number"] ["run"] (defScope s_folded) := ⟨rfl, rfl, rfl, by decide +kernel, rfl, by decide +kernel, by decide +kernel⟩
theorem sc_law_box : FnScope ["script", "k", "cell"] ["script", "k"] (defScope s_law_box) := ⟨rfl, rfl, rfl, by decide +kernel, rfl, by decide +kernel, by decide +kernel⟩
theorem sc_law_take : FnScope ["box", "many", "digit", "raw"] ["box", "many"] (defScope s_law_take) := ⟨rfl, rfl, rfl, by decide +kernel, rfl, by decide +kernel, by decide +kernel⟩
theorem sc_law_pick : FnScope ["box", "some"] ["box", "some"] (defScope s_law_pick) := ⟨rfl, rfl, rfl, by decide +kernel, rfl, by decide +kernel, by decide +kernel⟩
theorem sc_law_mixed : FnScope ["box", "some", "left", "found", "turn"] ["box", "some"] (defScope s_law_mixed) := ⟨rfl, rfl, rfl, by decide +kernel, rfl, by decide +kernel, by decide +kernel⟩
theorem sc_law_same : FnScope ["got", "due", "x", "y"] ["got", "due"] (defScope s_law_same) := ⟨rfl, rfl, rfl, by decide +kernel, rfl, by decide +kernel, by decide +kernel⟩
theorem sc_law_names : FnScope ["box", "many", "letters", "stem", "kind", "first", "stride", "found", "at", "one", "half", "turn"] ["box", "many"] (defScope s_law_names) := ⟨rfl, rfl, rfl, by decide +kernel, rfl, by decide +kernel, by decide +kernel⟩
theorem sc_law_heap : FnScope ["box", "places", "most", "great", "chosen", "turn", "place"] ["box", "places", "most", "great"] (defScope s_law_heap) := ⟨rfl, rfl, rfl, by decide +kernel, rfl, by decide +kernel, by decide +kernel⟩
theorem sc_law_plan : FnScope ["box", "places", "start", "end", "open_places", "come", "steps", "name", "take", "lay", "place", "many"] ["box"] (defScope s_law_plan) := ⟨rfl, rfl, rfl, by decide +kernel, rfl, by decide +kernel, by decide +kernel⟩
theorem sc_law_strange : FnScope ["steps", "names", "triple", "one"] ["steps"] (defScope s_law_strange) := ⟨rfl, rfl, rfl, by decide +kernel, rfl, by decide +kernel, by decide +kernel⟩
theorem sc_law_times : FnScope ["box"] ["box"] (defScope s_law_times) := ⟨rfl, rfl, rfl, by decide +kernel, rfl, by decide +kernel, by decide +kernel⟩
theorem sc_law_run : FnScope ["box", "names", "found", "turn", "step"] ["box", "names"] (defScope s_law_run) := ⟨rfl, rfl, rfl, by decide +kernel, rfl, by decide +kernel, by decide +kernel⟩
theorem sc_law_none : FnScope ["box", "plan", "step", "strange", "times"] ["box", "plan", "step", "strange", "times"] (defScope s_law_none) := ⟨rfl, rfl, rfl, by decide +kernel, rfl, by decide +kernel, by decide +kernel⟩
theorem sc_law_said : FnScope ["plan", "value", "answer", "e"] ["plan", "value"] (defScope s_law_said) := ⟨rfl, rfl, rfl, by decide +kernel, rfl, by decide +kernel, by decide +kernel⟩
theorem sc_law_needs_hold : FnScope ["box", "plan", "run", "strange", "other", "rows", "at", "step", "times", "spoilt", "late", "twice"] ["box", "plan", "run", "strange"] (defScope s_law_needs_hold) := ⟨rfl, rfl, rfl, by decide +kernel, rfl, by decide +kernel, by decide +kernel⟩
theorem sc_law_sum : FnScope ["run", "found", "step", "times"] ["run"] (defScope s_law_sum) := ⟨rfl, rfl, rfl, by decide +kernel, rfl, by decide +kernel, by decide +kernel⟩
theorem sc_law_folded : FnScope ["run", "steps", "heads", "ends", "row", "at", "head", "end"] ["run"] (defScope s_law_folded) := ⟨rfl, rfl, rfl, by decide +kernel, rfl, by decide +kernel, by decide +kernel⟩
theorem sc_law_change : FnScope ["steps", "pairs", "found", "known", "step", "times", "place", "many", "triple"] ["steps", "pairs"] (defScope s_law_change) := ⟨rfl, rfl, rfl, by decide +kernel, rfl, by decide +kernel, by decide +kernel⟩
theorem sc_law : FnScope ["script", "box", "told", "plan", "names", "run", "due", "pairs", "name", "triple", "pair"] ["script"] (defScope s_law) := ⟨rfl, rfl, rfl, by decide +kernel, rfl, by decide +kernel, by decide +kernel⟩
def inCls (s : Stmt) (j : Nat) : Stmt := match s with
  | .ClassDef _ _ _ b _ _ _ _ _ _ _ => b.getD j (.Pass ⟨0, 0, 0, 0⟩)
  | _ => .Pass ⟨0, 0, 0, 0⟩
abbrev s_InvalidPlan_i : Stmt := inCls (topS 9) 0
theorem sc_InvalidPlan_i : FnScope ["self", "word", "at"] ["self", "word", "at"] (defScope s_InvalidPlan_i) := ⟨rfl, rfl, rfl, by decide +kernel, rfl, by decide +kernel, by decide +kernel⟩
abbrev s_InvalidRun_i : Stmt := inCls (topS 10) 0
theorem sc_InvalidRun_i : FnScope ["self", "at"] ["self", "at"] (defScope s_InvalidRun_i) := ⟨rfl, rfl, rfl, by decide +kernel, rfl, by decide +kernel, by decide +kernel⟩
abbrev s_NoName_i : Stmt := inCls (topS 11) 0
theorem sc_NoName_i : FnScope ["self", "name"] ["self", "name"] (defScope s_NoName_i) := ⟨rfl, rfl, rfl, by decide +kernel, rfl, by decide +kernel, by decide +kernel⟩
abbrev s_Plan_i : Stmt := inCls (topS 22) 0
theorem sc_Plan_i : FnScope ["self", "places", "steps", "start", "end"] ["self", "places", "steps", "start", "end"] (defScope s_Plan_i) := ⟨rfl, rfl, rfl, by decide +kernel, rfl, by decide +kernel, by decide +kernel⟩
structure Tx (K : PySem.W.Frag) (mg : Str → Option Value) where
  is_integer : Addr
  is_integer_fd : FuncData
  is_integer_F : Fun K "is_integer" "is_integer" s_is_integer is_integer is_integer_fd
  is_integer_m : mg "is_integer" = some (.ref is_integer)
  is_integer_b : Binds K is_integer_fd ["value"] []
  is_count : Addr
  is_count_fd : FuncData
  is_count_F : Fun K "is_count" "is_count" s_is_count is_count is_count_fd
  is_count_m : mg "is_count" = some (.ref is_count)
  is_count_b : Binds K is_count_fd ["value"] []
  is_name : Addr
  is_name_fd : FuncData
  is_name_F : Fun K "is_name" "is_name" s_is_name is_name is_name_fd
  is_name_m : mg "is_name" = some (.ref is_name)
  is_name_b : Binds K is_name_fd ["value"] []
  is_pair : Addr
  is_pair_fd : FuncData
  is_pair_F : Fun K "is_pair" "is_pair" s_is_pair is_pair is_pair_fd
  is_pair_m : mg "is_pair" = some (.ref is_pair)
  is_pair_b : Binds K is_pair_fd ["value"] []
  first_wrong : Addr
  first_wrong_fd : FuncData
  first_wrong_F : Fun K "first_wrong" "first_wrong" s_first_wrong first_wrong first_wrong_fd
  first_wrong_m : mg "first_wrong" = some (.ref first_wrong)
  first_wrong_b : Binds K first_wrong_fd ["value", "is_right"] []
  is_heap : Addr
  is_heap_fd : FuncData
  is_heap_F : Fun K "is_heap" "is_heap" s_is_heap is_heap is_heap_fd
  is_heap_m : mg "is_heap" = some (.ref is_heap)
  is_heap_b : Binds K is_heap_fd ["value"] []
  added_up : Addr
  added_up_fd : FuncData
  added_up_F : Fun K "added_up" "added_up" s_added_up added_up added_up_fd
  added_up_m : mg "added_up" = some (.ref added_up)
  added_up_b : Binds K added_up_fd ["pairs"] []
  amount : Addr
  amount_fd : FuncData
  amount_F : Fun K "amount" "amount" s_amount amount amount_fd
  amount_m : mg "amount" = some (.ref amount)
  amount_b : Binds K amount_fd ["heap", "place"] []
  gap : Addr
  gap_fd : FuncData
  gap_F : Fun K "gap" "gap" s_gap gap gap_fd
  gap_m : mg "gap" = some (.ref gap)
  gap_b : Binds K gap_fd ["heap", "other"] []
  changes_joined : Addr
  changes_joined_fd : FuncData
  changes_joined_F : Fun K "changes_joined" "changes_joined" s_changes_joined changes_joined changes_joined_fd
  changes_joined_m : mg "changes_joined" = some (.ref changes_joined)
  changes_joined_b : Binds K changes_joined_fd ["changes"] []
  change_times : Addr
  change_times_fd : FuncData
  change_times_F : Fun K "change_times" "change_times" s_change_times change_times change_times_fd
  change_times_m : mg "change_times" = some (.ref change_times)
  change_times_b : Binds K change_times_fd ["change", "number"] []
  need_places : Addr
  need_places_fd : FuncData
  need_places_F : Fun K "need_places" "need_places" s_need_places need_places need_places_fd
  need_places_m : mg "need_places" = some (.ref need_places)
  need_places_b : Binds K need_places_fd ["places"] []
  need_steps : Addr
  need_steps_fd : FuncData
  need_steps_F : Fun K "need_steps" "need_steps" s_need_steps need_steps need_steps_fd
  need_steps_m : mg "need_steps" = some (.ref need_steps)
  need_steps_b : Binds K need_steps_fd ["places", "steps", "start", "end"] []
  is_step : Addr
  is_step_fd : FuncData
  is_step_F : Fun K "is_step" "is_step" s_is_step is_step is_step_fd
  is_step_m : mg "is_step" = some (.ref is_step)
  is_step_b : Binds K is_step_fd ["places", "step", "start", "end"] []
  is_side : Addr
  is_side_fd : FuncData
  is_side_F : Fun K "is_side" "is_side" s_is_side is_side is_side_fd
  is_side_m : mg "is_side" = some (.ref is_side)
  is_side_b : Binds K is_side_fd ["places", "heap"] []
  step_of : Addr
  step_of_fd : FuncData
  step_of_F : Fun K "step_of" "step_of" s_step_of step_of step_of_fd
  step_of_m : mg "step_of" = some (.ref step_of)
  step_of_b : Binds K step_of_fd ["plan", "name"] []
  step_change : Addr
  step_change_fd : FuncData
  step_change_F : Fun K "step_change" "step_change" s_step_change step_change step_change_fd
  step_change_m : mg "step_change" = some (.ref step_change)
  step_change_b : Binds K step_change_fd ["plan", "name"] []
  names_of : Addr
  names_of_fd : FuncData
  names_of_F : Fun K "names_of" "names_of" s_names_of names_of names_of_fd
  names_of_m : mg "names_of" = some (.ref names_of)
  names_of_b : Binds K names_of_fd ["plan"] []
  need_run : Addr
  need_run_fd : FuncData
  need_run_F : Fun K "need_run" "need_run" s_need_run need_run need_run_fd
  need_run_m : mg "need_run" = some (.ref need_run)
  need_run_b : Binds K need_run_fd ["plan", "value"] []
  first_wrong_row : Addr
  first_wrong_row_fd : FuncData
  first_wrong_row_F : Fun K "first_wrong_row" "first_wrong_row" s_first_wrong_row first_wrong_row first_wrong_row_fd
  first_wrong_row_m : mg "first_wrong_row" = some (.ref first_wrong_row)
  first_wrong_row_b : Binds K first_wrong_row_fd ["plan", "value"] []
  run_sum : Addr
  run_sum_fd : FuncData
  run_sum_F : Fun K "run_sum" "run_sum" s_run_sum run_sum run_sum_fd
  run_sum_m : mg "run_sum" = some (.ref run_sum)
  run_sum_b : Binds K run_sum_fd ["run"] []
  sum_change : Addr
  sum_change_fd : FuncData
  sum_change_F : Fun K "sum_change" "sum_change" s_sum_change sum_change sum_change_fd
  sum_change_m : mg "sum_change" = some (.ref sum_change)
  sum_change_b : Binds K sum_change_fd ["plan", "steps"] []
  steps_in : Addr
  steps_in_fd : FuncData
  steps_in_F : Fun K "steps_in" "steps_in" s_steps_in steps_in steps_in_fd
  steps_in_m : mg "steps_in" = some (.ref steps_in)
  steps_in_b : Binds K steps_in_fd ["run"] []
  folded : Addr
  folded_fd : FuncData
  folded_F : Fun K "folded" "folded" s_folded folded folded_fd
  folded_m : mg "folded" = some (.ref folded)
  folded_b : Binds K folded_fd ["run"] []
  law_box : Addr
  law_box_fd : FuncData
  law_box_F : Fun K "_law_box" "_law_box" s_law_box law_box law_box_fd
  law_box_m : mg "_law_box" = some (.ref law_box)
  law_box_b : Binds K law_box_fd ["script", "k"] []
  law_take : Addr
  law_take_fd : FuncData
  law_take_F : Fun K "_law_take" "_law_take" s_law_take law_take law_take_fd
  law_take_m : mg "_law_take" = some (.ref law_take)
  law_take_b : Binds K law_take_fd ["box", "many"] []
  law_pick : Addr
  law_pick_fd : FuncData
  law_pick_F : Fun K "_law_pick" "_law_pick" s_law_pick law_pick law_pick_fd
  law_pick_m : mg "_law_pick" = some (.ref law_pick)
  law_pick_b : Binds K law_pick_fd ["box", "some"] []
  law_mixed : Addr
  law_mixed_fd : FuncData
  law_mixed_F : Fun K "_law_mixed" "_law_mixed" s_law_mixed law_mixed law_mixed_fd
  law_mixed_m : mg "_law_mixed" = some (.ref law_mixed)
  law_mixed_b : Binds K law_mixed_fd ["box", "some"] []
  law_same : Addr
  law_same_fd : FuncData
  law_same_F : Fun K "_law_same" "_law_same" s_law_same law_same law_same_fd
  law_same_m : mg "_law_same" = some (.ref law_same)
  law_same_b : Binds K law_same_fd ["got", "due"] []
  law_names : Addr
  law_names_fd : FuncData
  law_names_F : Fun K "_law_names" "_law_names" s_law_names law_names law_names_fd
  law_names_m : mg "_law_names" = some (.ref law_names)
  law_names_b : Binds K law_names_fd ["box", "many"] []
  law_heap : Addr
  law_heap_fd : FuncData
  law_heap_F : Fun K "_law_heap" "_law_heap" s_law_heap law_heap law_heap_fd
  law_heap_m : mg "_law_heap" = some (.ref law_heap)
  law_heap_b : Binds K law_heap_fd ["box", "places", "most", "great"] []
  law_plan : Addr
  law_plan_fd : FuncData
  law_plan_F : Fun K "_law_plan" "_law_plan" s_law_plan law_plan law_plan_fd
  law_plan_m : mg "_law_plan" = some (.ref law_plan)
  law_plan_b : Binds K law_plan_fd ["box"] []
  law_strange : Addr
  law_strange_fd : FuncData
  law_strange_F : Fun K "_law_strange" "_law_strange" s_law_strange law_strange law_strange_fd
  law_strange_m : mg "_law_strange" = some (.ref law_strange)
  law_strange_b : Binds K law_strange_fd ["steps"] []
  law_times : Addr
  law_times_fd : FuncData
  law_times_F : Fun K "_law_times" "_law_times" s_law_times law_times law_times_fd
  law_times_m : mg "_law_times" = some (.ref law_times)
  law_times_b : Binds K law_times_fd ["box"] []
  law_run : Addr
  law_run_fd : FuncData
  law_run_F : Fun K "_law_run" "_law_run" s_law_run law_run law_run_fd
  law_run_m : mg "_law_run" = some (.ref law_run)
  law_run_b : Binds K law_run_fd ["box", "names"] []
  law_none : Addr
  law_none_fd : FuncData
  law_none_F : Fun K "_law_none" "_law_none" s_law_none law_none law_none_fd
  law_none_m : mg "_law_none" = some (.ref law_none)
  law_none_b : Binds K law_none_fd ["box", "plan", "step", "strange", "times"] []
  law_said : Addr
  law_said_fd : FuncData
  law_said_F : Fun K "_law_said" "_law_said" s_law_said law_said law_said_fd
  law_said_m : mg "_law_said" = some (.ref law_said)
  law_said_b : Binds K law_said_fd ["plan", "value"] []
  law_needs_hold : Addr
  law_needs_hold_fd : FuncData
  law_needs_hold_F : Fun K "_law_needs_hold" "_law_needs_hold" s_law_needs_hold law_needs_hold law_needs_hold_fd
  law_needs_hold_m : mg "_law_needs_hold" = some (.ref law_needs_hold)
  law_needs_hold_b : Binds K law_needs_hold_fd ["box", "plan", "run", "strange"] []
  law_sum : Addr
  law_sum_fd : FuncData
  law_sum_F : Fun K "_law_sum" "_law_sum" s_law_sum law_sum law_sum_fd
  law_sum_m : mg "_law_sum" = some (.ref law_sum)
  law_sum_b : Binds K law_sum_fd ["run"] []
  law_folded : Addr
  law_folded_fd : FuncData
  law_folded_F : Fun K "_law_folded" "_law_folded" s_law_folded law_folded law_folded_fd
  law_folded_m : mg "_law_folded" = some (.ref law_folded)
  law_folded_b : Binds K law_folded_fd ["run"] []
  law_change : Addr
  law_change_fd : FuncData
  law_change_F : Fun K "_law_change" "_law_change" s_law_change law_change law_change_fd
  law_change_m : mg "_law_change" = some (.ref law_change)
  law_change_b : Binds K law_change_fd ["steps", "pairs"] []
  law : Addr
  law_fd : FuncData
  law_F : Fun K "law" "law" s_law law law_fd
  law_m : mg "law" = some (.ref law)
  law_b : Binds K law_fd ["script"] []
  z_abs : mg "abs" = none
  z_all : mg "all" = none
  z_bool : mg "bool" = none
  z_dict : mg "dict" = none
  z_enumerate : mg "enumerate" = none
  z_int : mg "int" = none
  z_isinstance : mg "isinstance" = none
  z_len : mg "len" = none
  z_list : mg "list" = none
  z_max : mg "max" = none
  z_range : mg "range" = none
  z_sorted : mg "sorted" = none
  z_str : mg "str" = none
  z_sum : mg "sum" = none
  z_tuple : mg "tuple" = none
  z_zip : mg "zip" = none
  LETTERS_t : Tok
  LETTERS_m : mg "LETTERS" = some (.str "abcdefghijklmnopqrstuvwxyz" LETTERS_t)
  LONGEST_NAME_t : Tok
  LONGEST_NAME_m : mg "LONGEST_NAME" = some (.int 8 LONGEST_NAME_t)
  MOST_PAPERS_t : Tok
  MOST_PAPERS_m : mg "MOST_PAPERS" = some (.int 9 MOST_PAPERS_t)
  CaseError : Addr
  CaseError_m : mg "CaseError" = some (.ref CaseError)
  CaseError_E : Xc.ErX K CaseError "Exception" "Exception.__new__" []
  InvalidPlan : Addr
  InvalidPlan_m : mg "InvalidPlan" = some (.ref InvalidPlan)
  InvalidPlan_E : Xc.ErX K InvalidPlan "Exception" "Exception.__new__" ["word", "at"]
  InvalidPlan_i : Addr
  InvalidPlan_fd : FuncData
  InvalidPlan_F : Fun K "__init__" "InvalidPlan.__init__" s_InvalidPlan_i InvalidPlan_i InvalidPlan_fd
  InvalidPlan_b : Binds K InvalidPlan_fd ["self", "word", "at"] []
  InvalidPlan_iC : PySem.W.findIn K (.ref InvalidPlan) "__init__" = some (some (.ref InvalidPlan_i))
  InvalidPlan_tI : PySem.W.typeIn K (.ref InvalidPlan_i) = some (.type "function")
  InvalidRun : Addr
  InvalidRun_m : mg "InvalidRun" = some (.ref InvalidRun)
  InvalidRun_E : Xc.ErX K InvalidRun "Exception" "Exception.__new__" ["at"]
  InvalidRun_i : Addr
  InvalidRun_fd : FuncData
  InvalidRun_F : Fun K "__init__" "InvalidRun.__init__" s_InvalidRun_i InvalidRun_i InvalidRun_fd
  InvalidRun_b : Binds K InvalidRun_fd ["self", "at"] []
  InvalidRun_iC : PySem.W.findIn K (.ref InvalidRun) "__init__" = some (some (.ref InvalidRun_i))
  InvalidRun_tI : PySem.W.typeIn K (.ref InvalidRun_i) = some (.type "function")
  NoName : Addr
  NoName_m : mg "NoName" = some (.ref NoName)
  NoName_E : Xc.ErX K NoName "LookupError" "LookupError.__new__" ["name"]
  NoName_i : Addr
  NoName_fd : FuncData
  NoName_F : Fun K "__init__" "NoName.__init__" s_NoName_i NoName_i NoName_fd
  NoName_b : Binds K NoName_fd ["self", "name"] []
  NoName_iC : PySem.W.findIn K (.ref NoName) "__init__" = some (some (.ref NoName_i))
  NoName_tI : PySem.W.typeIn K (.ref NoName_i) = some (.type "function")
  Plan : Addr
  Plan_m : mg "Plan" = some (.ref Plan)
  Plan_i : Addr
  Plan_fd : FuncData
  Plan_F : Fun K "__init__" "Plan.__init__" s_Plan_i Plan_i Plan_fd
  Plan_b : Binds K Plan_fd ["self", "places", "steps", "start", "end"] []
  Plan_iC : PySem.W.findIn K (.ref Plan) "__init__" = some (some (.ref Plan_i))
  Plan_M : Mk K Plan Plan_i
  Plan_O : objB K Plan = true
  Plan_nend : NoAttr K Plan "end"
  Plan_nplaces : NoAttr K Plan "places"
  Plan_nstart : NoAttr K Plan "start"
  Plan_nsteps : NoAttr K Plan "steps"
  tab : Xc.tabB K [InvalidPlan, InvalidRun, NoName] CaseError NoName = true
def Tx.objs {K : PySem.W.Frag} {mg : Str → Option Value} (T : Tx K mg) : List Addr := [T.Plan]
theorem Tx.objs_isi {K : PySem.W.Frag} {mg : Str → Option Value} (T : Tx K mg) : ∀ C ∈ T.objs, OwnC K C ∧ ∀ k : Kd, PySem.W.kitOne K (.ref C) (.type k.name) = some false := by
  intro C hC
  simp only [Tx.objs, List.mem_cons, List.not_mem_nil, or_false] at hC
  subst hC
  exact objB_ok T.Plan_O
theorem Tx.fl_end {K : PySem.W.Frag} {mg : Str → Option Value} (T : Tx K mg) : ∀ C ∈ T.objs, Cls K C ∧ NoAttr K C "end" := by
  intro C hC
  simp only [Tx.objs, List.mem_cons, List.not_mem_nil, or_false] at hC
  subst hC
  exact ⟨(objB_ok T.Plan_O).1.cl, T.Plan_nend⟩
theorem Tx.fl_places {K : PySem.W.Frag} {mg : Str → Option Value} (T : Tx K mg) : ∀ C ∈ T.objs, Cls K C ∧ NoAttr K C "places" := by
  intro C hC
  simp only [Tx.objs, List.mem_cons, List.not_mem_nil, or_false] at hC
  subst hC
  exact ⟨(objB_ok T.Plan_O).1.cl, T.Plan_nplaces⟩
theorem Tx.fl_start {K : PySem.W.Frag} {mg : Str → Option Value} (T : Tx K mg) : ∀ C ∈ T.objs, Cls K C ∧ NoAttr K C "start" := by
  intro C hC
  simp only [Tx.objs, List.mem_cons, List.not_mem_nil, or_false] at hC
  subst hC
  exact ⟨(objB_ok T.Plan_O).1.cl, T.Plan_nstart⟩
theorem Tx.fl_steps {K : PySem.W.Frag} {mg : Str → Option Value} (T : Tx K mg) : ∀ C ∈ T.objs, Cls K C ∧ NoAttr K C "steps" := by
  intro C hC
  simp only [Tx.objs, List.mem_cons, List.not_mem_nil, or_false] at hC
  subst hC
  exact ⟨(objB_ok T.Plan_O).1.cl, T.Plan_nsteps⟩
theorem kb_folded_run {K : PySem.W.Frag} {f : Addr} {fd : FuncData} (F : Fun K "folded" "folded" s_folded f fd) : KBn K fd ["run"] 0 ["run"] (fun _ zs => perm [0] zs) (fun _ zs => perm [0] zs) := by
  obtain ⟨oc, od, kV, doc, pm, an, cdv, ct, osl, rfl, lk, hcd⟩ := F.ex
  exact kbn_perm fun s ws h => match ws, h with | [a0], _ => .of_eq rfl
theorem kb_need_run_value_plan {K : PySem.W.Frag} {f : Addr} {fd : FuncData} (F : Fun K "need_run" "need_run" s_need_run f fd) : KBn K fd ["plan", "value"] 0 ["value", "plan"] (fun _ zs => perm [1, 0] zs) (fun _ zs => perm [1, 0] zs) := by
  obtain ⟨oc, od, kV, doc, pm, an, cdv, ct, osl, rfl, lk, hcd⟩ := F.ex
  exact kbn_perm fun s ws h => match ws, h with | [a0, a1], _ => .of_eq rfl
theorem kb_run_sum_run {K : PySem.W.Frag} {f : Addr} {fd : FuncData} (F : Fun K "run_sum" "run_sum" s_run_sum f fd) : KBn K fd ["run"] 0 ["run"] (fun _ zs => perm [0] zs) (fun _ zs => perm [0] zs) := by
  obtain ⟨oc, od, kV, doc, pm, an, cdv, ct, osl, rfl, lk, hcd⟩ := F.ex
  exact kbn_perm fun s ws h => match ws, h with | [a0], _ => .of_eq rfl
theorem kb_steps_in_run {K : PySem.W.Frag} {f : Addr} {fd : FuncData} (F : Fun K "steps_in" "steps_in" s_steps_in f fd) : KBn K fd ["run"] 0 ["run"] (fun _ zs => perm [0] zs) (fun _ zs => perm [0] zs) := by
  obtain ⟨oc, od, kV, doc, pm, an, cdv, ct, osl, rfl, lk, hcd⟩ := F.ex
  exact kbn_perm fun s ws h => match ws, h with | [a0], _ => .of_eq rfl
theorem kb_sum_change_steps_plan {K : PySem.W.Frag} {f : Addr} {fd : FuncData} (F : Fun K "sum_change" "sum_change" s_sum_change f fd) : KBn K fd ["plan", "steps"] 0 ["steps", "plan"] (fun _ zs => perm [1, 0] zs) (fun _ zs => perm [1, 0] zs) := by
  obtain ⟨oc, od, kV, doc, pm, an, cdv, ct, osl, rfl, lk, hcd⟩ := F.ex
  exact kbn_perm fun s ws h => match ws, h with | [a0, a1], _ => .of_eq rfl
section
variable {P : Program} {w : World} {K : PySem.W.Frag} {mg : Str → Option Value} {base : Heap}
theorem ok_InvalidPlan_i (T : Tx K mg) : FnOk P w K mg base CX0 1 T.InvalidPlan_i T.InvalidPlan_fd ["self", "word", "at"] (Xc.spI2 T.InvalidPlan "word" "at") := by
  refine T.InvalidPlan_F.ok sc_InvalidPlan_i (fun vs H Q E h => ?_) (fun cdv A outer s H vs Q E hr h => ?_)
  · obtain ⟨a, v, u, rfl, _⟩ := h
    rfl
  · obtain ⟨a, v, u, rfl, ha, k⟩ := h
    exact ⟨_, pss_cons (Xc.ps_st (pv 0) (pv 1)) (pss_one (Xc.ps_st (pv 0) (pv 2))), _, rfl, _, rfl, a, _, _, _, rfl, T.InvalidPlan_E.c, T.InvalidPlan_E.no _ (by simp), .inl ⟨ha, fun dx nd ne => ⟨_, rfl, _, rfl, a, _, _, _, rfl, T.InvalidPlan_E.c, T.InvalidPlan_E.no _ (by simp), .inr ⟨dx, _, upd_same, by rw [upd_ne ne, upd_same], by simp, k dx nd ne⟩⟩⟩⟩
theorem ok_InvalidRun_i (T : Tx K mg) : FnOk P w K mg base CX0 1 T.InvalidRun_i T.InvalidRun_fd ["self", "at"] (Xc.spI T.InvalidRun "at") := by
  refine T.InvalidRun_F.ok sc_InvalidRun_i (fun vs H Q E h => ?_) (fun cdv A outer s H vs Q E hr h => ?_)
  · obtain ⟨a, v, rfl, _⟩ := h
    rfl
  · obtain ⟨a, v, rfl, ha, k⟩ := h
    exact ⟨_, pss_one (Xc.ps_st (pv 0) (pv 1)), _, rfl, _, rfl, a, _, _, _, rfl, T.InvalidRun_E.c, T.InvalidRun_E.no _ (by simp), .inl ⟨ha, k⟩⟩
theorem ok_NoName_i (T : Tx K mg) : FnOk P w K mg base CX0 1 T.NoName_i T.NoName_fd ["self", "name"] (Xc.spI T.NoName "name") := by
  refine T.NoName_F.ok sc_NoName_i (fun vs H Q E h => ?_) (fun cdv A outer s H vs Q E hr h => ?_)
  · obtain ⟨a, v, rfl, _⟩ := h
    rfl
  · obtain ⟨a, v, rfl, ha, k⟩ := h
    exact ⟨_, pss_one (Xc.ps_st (pv 0) (pv 1)), _, rfl, _, rfl, a, _, _, _, rfl, T.NoName_E.c, T.NoName_E.no _ (by simp), .inl ⟨ha, k⟩⟩
theorem ok_law_take0 (T : Tx K mg) : FnOk P w K mg base (L2.CX P w) 1 T.law_take T.law_take_fd ["box", "many"] spTake := by
  refine T.law_take_F.okX sc_law_take (fun vs H Q E h => ?_) (fun cdv A outer s H vs Q E hr h => ?_)
  · obtain ⟨b, many, rfl, _⟩ := h
    rfl
  · obtain ⟨b, many, rfl, hb, h1, h2, k⟩ := h
    refine ⟨_, (Pre.pss_open (pss_cons (ps_if (pt_cmpR op_gt (pe_ix ix_list (pv 0) pe_int (fun _ _ => rfl)) pe_int (nomark _)) (pss_cons (ps_set (i := 2) sc_law_take.nd rfl (Or.inl rfl) (pe_op op_mod (pe_callTy call_int1 (by rfl) T.z_int (by decide +kernel) (pa_cons (pe_ix ix_list (pv 0) pe_int (fun _ _ => rfl)) pa_nil)) (pv 1)))
      (pss_cons (ps_asg (pe_op Pre.op_fdivG (pe_ix ix_list (pv 0) pe_int (fun _ _ => rfl)) (pv 1)) (pg_sub (pv 0) pe_int set_list))
      (pss_one (ps_ret (Pre.pe_close (pv 2)))))) pss_nil)
      (pss_cons (ps_asg (pe_op op_add (pe_ix ix_list (pv 0) pe_int (fun _ _ => rfl)) pe_int) (pg_sub (pv 0) pe_int set_list))
      (pss_cons (ps_set (i := 3) sc_law_take.nd rfl (Or.inl rfl) (pe_op op_mod (pe_callTy call_int1 (by rfl) T.z_int (by decide +kernel) (pa_cons (pe_op op_add (pe_op op_mul (pe_op op_add (pe_ix ix_list (pv 0) pe_int (fun _ _ => rfl)) (pe_op op_mul pe_int (pe_ix ix_list (pv 0) pe_int (fun _ _ => rfl)))) pe_int) pe_int) pa_nil)) pe_int))
      (pss_cons (ps_asg (pe_op op_add (pe_op op_mod (pe_callTy call_int1 (by rfl) T.z_int (by decide +kernel) (pa_cons (pe_op op_add (pe_op op_mul (pv 3) pe_int) pe_int) pa_nil)) pe_int) pe_int) (pg_sub (pv 0) pe_int set_list))
      (pss_one (ps_ret (Pre.pe_close (pe_op op_mod (pe_callTy call_int1 (by rfl) T.z_int (by decide +kernel) (pa_cons (pe_op op_fdiv (pe_op op_add (pe_op op_mul (pv 3) pe_int) (pe_ix ix_list (pv 0) pe_int (fun _ _ => rfl))) pe_int) pa_nil)) (pv 1)))))))))), ?_⟩
    refine ⟨b, BoxP, hb, fun xs ⟨c, m, j, ex, c0, m0, j0⟩ _ => ?_⟩
    subst ex
    have S : Open H b c m j (upd H b (.lst [.int c, .int m, .int j])) := ⟨upd_same, c0, m0, j0, fun x o h ne => by rw [upd_ne ne]; exact h⟩
    generalize upd H b (.lst [.int c, .int m, .int j]) = H0 at S ⊢
    refine ⟨_, rfl, b, _, _, _, rfl, rfl, SqL.of S.hb, rfl, _, _, rfl, rfl, _, rfl, ite2 (fun hc => ?_) (fun hc => ?_)⟩
    · refine ⟨_, rfl, b, _, _, _, rfl, rfl, SqL.of S.hb, rfl, .inl ⟨_, rfl, _, rfl, _, _, rfl, rfl, (by show (0 : Int) < many; omega), ?_⟩⟩
      refine ⟨_, rfl, b, _, _, _, rfl, rfl, SqL.of S.hb, rfl, _, rfl, _, _, rfl, rfl, Pre.div_ok (b := 64) (by omega) (by omega), _, rfl, b, _, _, 0, rfl, rfl, S.hb, rfl, ?_⟩
      have S2 := S.set (xs := [V.int (c.fdiv many), .int m, .int j]) rfl (Int.fdiv_nonneg c0 (by omega)) m0 j0
      exact ⟨_, rfl, b, BoxP, _, S2.hb, ⟨_, _, _, rfl, S2.c0, S2.m0, S2.j0⟩, k _ _ (S2.close hb) (Int.emod_nonneg _ (by omega)) (Int.emod_lt_of_pos _ (by omega))⟩
    · refine ⟨_, rfl, b, _, _, _, rfl, rfl, SqL.of S.hb, atI_nat (j := 2) rfl, _, _, rfl, rfl, _, rfl, b, _, _, 2, rfl, rfl, S.hb, rfl, ?_⟩
      have S2 := S.set (xs := [V.int c, .int m, .int (j + 1)]) (j' := j + 1) rfl c0 m0 (by omega)
      generalize hg2 : upd H0 b _ = H2 at S2
      have e2 : upd H0 b (.lst ([V.int c, .int m, .int j].set 2 (.int (j + 1)))) = H2 := hg2
      rw [e2]
      clear hg2 e2
      refine ⟨_, rfl, b, _, _, _, rfl, rfl, SqL.of S2.hb, atI_nat (j := 1) rfl, _, rfl, b, _, _, _, rfl, rfl, SqL.of S2.hb, atI_nat (j := 2) rfl, _, _, rfl, rfl, .inl ⟨by decide, by decide⟩, _, _, rfl, rfl, _, _, rfl, rfl, .inr ⟨by decide, by decide⟩, _, _, rfl, rfl,
        .inl ⟨_, rfl, _, _, rfl, rfl, (by show (0 : Int) < 2147483563; decide), ?_⟩⟩
      refine ⟨_, rfl, _, _, rfl, rfl, .inr ⟨by decide, by decide⟩, _, _, rfl, rfl, .inl ⟨_, rfl, _, _, rfl, rfl, (by show (0 : Int) < 2147483629; decide), _, _, rfl, rfl, _, rfl, b, _, _, 1, rfl, rfl, S2.hb, rfl, ?_⟩⟩
      have m1 : 0 ≤ ((((m + 92821 * (j + 1)) * 62089 + 31) % 2147483563) * 40692 + 30323) % 2147483629 + 1 := by
        have := Int.emod_nonneg ((((m + 92821 * (j + 1)) * 62089 + 31) % 2147483563) * 40692 + 30323) (show (2147483629 : Int) ≠ 0 by decide)
        omega
      have S3 := S2.set (xs := [V.int c, .int (((((m + 92821 * (j + 1)) * 62089 + 31) % 2147483563) * 40692 + 30323) % 2147483629 + 1), .int (j + 1)]) rfl c0 m1 (by omega)
      refine ⟨_, rfl, _, _, rfl, rfl, .inr ⟨by decide, by decide⟩, _, rfl, b, _, _, _, rfl, rfl, SqL.of S3.hb, atI_nat (j := 1) rfl, _, _, rfl, rfl, _, _, rfl, rfl, ⟨by decide, by decide⟩, .inl ⟨_, rfl, _, rfl, _, _, rfl, rfl, (by show (0 : Int) < many; omega), b, BoxP, _, S3.hb, ⟨_, _, _, rfl, c0, m1, by omega⟩,
        k _ _ (S3.close hb) (Int.emod_nonneg _ (by omega)) (Int.emod_lt_of_pos _ (by omega))⟩⟩
@[irreducible] def F_law_take (_ : Tx K mg) : Fd := FTake
theorem ok_law_take (T : Tx K mg) : FnOk P w K mg base (L2.CX P w) 1 T.law_take T.law_take_fd ["box", "many"] (spP K 2 (F_law_take T)) := by
  unfold F_law_take
  exact take_of (ok_law_take0 T)

def Fr_is_integer (T : Tx K mg) : Fd := fun as Pr Re => (wRet (wAndV (wIsi .int T.objs (wVar 0)) (wNotV (wIsi .bool T.objs (wVar 0))))) (startE 1 as) (fin Pr Re)
theorem okr_is_integer (T : Tx K mg) : FnOk P w K mg base (L2.CX P w) 1 T.is_integer T.is_integer_fd ["value"] (spP K 1 (Fr_is_integer T)) :=
  okP T.is_integer_F sc_is_integer rfl fun cdv A outer s H E B hr => ⟨_, pdss_one (pds_ret (pd_and (pd_isi (k := .int) T.objs_isi (by rfl) T.z_isinstance (by decide +kernel) (pd_var 0) (pe_bltn (v := .ty "int") (by rfl) T.z_int boot_int rfl)) (pd_one (pd_not (pd_isi (k := .bool) T.objs_isi (by rfl) T.z_isinstance (by decide +kernel) (pd_var 0) (pe_bltn (v := .ty "bool") (by rfl) T.z_bool boot_bool rfl)))))), fun _ _ _ _ hF => hF⟩
@[irreducible] def F_is_integer (T : Tx K mg) : Fd := Fr_is_integer T
theorem ok_is_integer (T : Tx K mg) : FnOk P w K mg base (L2.CX P w) 1 T.is_integer T.is_integer_fd ["value"] (spP K 1 (F_is_integer T)) := by
  unfold F_is_integer
  exact okr_is_integer T
def Fr_is_count (T : Tx K mg) : Fd := fun as Pr Re => (wRet (wAndV (wCall 1 (F_is_integer T) (wCons (wVar 0) wNil)) (wOp φGeU (wVar 0) (wC (.int 1))))) (startE 1 as) (fin Pr Re)
theorem okr_is_count (T : Tx K mg) : FnOk P w K mg base (L2.CX P w) 2 T.is_count T.is_count_fd ["value"] (spP K 1 (Fr_is_count T)) :=
  okP T.is_count_F sc_is_count rfl fun cdv A outer s H E B hr => ⟨_, pdss_one (pds_ret (pd_and (pd_call (ok_is_integer T) (hr.mono (by omega)) (by rfl) T.is_integer_m T.is_integer_F.kp T.is_integer_b (takes_of rfl rfl rfl rfl) (pda_cons (pd_var 0) pda_nil)) (pd_one (pd_cmp (op_geU hr.units) odOrd (pd_var 0) pd_int (nomark _))))), fun _ _ _ _ hF => hF⟩
@[irreducible] def F_is_count (T : Tx K mg) : Fd := Fr_is_count T
theorem ok_is_count (T : Tx K mg) : FnOk P w K mg base (L2.CX P w) 2 T.is_count T.is_count_fd ["value"] (spP K 1 (F_is_count T)) := by
  unfold F_is_count
  exact okr_is_count T
def Fr_is_name (T : Tx K mg) : Fd := fun as Pr Re => (wSeq (wIfS (wOr (wNot (wTru (wIsi .str T.objs (wVar 0)))) (wNot (wB (wCh φLeU φLeU (wC (.int 1)) (wBt φLen (wCons (wVar 0) wNil)) (wC (.int 8)))))) (wRet (wC (.bl false))) wNext)
      (wRet (wBt (φAll false) (wCons (wLV (wComp [1] (wWalk (wVar 0)) (sName 1) wYes (wOp (φInU false) (wVar 1) (wC (.str "abcdefghijklmnopqrstuvwxyz"))))) wNil)))) (startE 2 as) (fin Pr Re)
theorem okr_is_name (T : Tx K mg) : FnOk P w K mg base (L2.CX P w) 1 T.is_name T.is_name_fd ["value"] (spP K 1 (Fr_is_name T)) :=
  okP T.is_name_F sc_is_name rfl fun cdv A outer s H E B hr => ⟨_, pdss_cons (pds_if (pqw_pt (pqw_or (pq_not (pq_tru (pd_isi (k := .str) T.objs_isi (by rfl) T.z_isinstance (by decide +kernel) (pd_var 0) (pe_bltn (v := .ty "str") (by rfl) T.z_str boot_str rfl)))) (pqw_or1 (pq_not (pq_chain (op_leU hr.units) (op_leU hr.units) odOrd odOrd pd_int (pd_bt (pe_callB call_len (by rfl) T.z_len (by decide +kernel) (pda_cons (pd_var 0) pda_nil)) cdLen) (pd_const (v := .int 8) (pe_glob (by rfl) T.LONGEST_NAME_m ⟨_, rfl⟩) (fun _ _ => .int _))))))) (pdss_one (pds_ret pd_bl)) pdss_nil)
      (pdss_one (pds_ret (pd_bt (pe_callB (cr_all rfl) (by rfl) T.z_all (by decide +kernel) (pda_cons (pd_of_pl (pl_lc (own := [("letter", 1)]) rfl sc_is_name.nd (pdi_walk (pd_var 0)) (blkOk_by (own := [("letter", 1)]) (N := ["value", "letter"]) (sc := defScope s_is_name) (by decide +kernel)) (fun _ _ _ _ _ => pgc_name (i := 1) sc_is_name.nd rfl (Or.inl rfl)) (fun _ _ _ _ _ => pqs_nil) (fun _ _ _ _ _ => pd_cmp (op_inU hr.units65) odInU (pd_var 1) (pd_const (v := .str "abcdefghijklmnopqrstuvwxyz") (pe_glob (by rfl) T.LETTERS_m ⟨_, rfl⟩) (fun _ _ => .str _)) rfl))) pda_nil)) cdAll))), fun _ _ _ _ hF => hF⟩
@[irreducible] def F_is_name (T : Tx K mg) : Fd := Fr_is_name T
theorem ok_is_name (T : Tx K mg) : FnOk P w K mg base (L2.CX P w) 1 T.is_name T.is_name_fd ["value"] (spP K 1 (F_is_name T)) := by
  unfold F_is_name
  exact okr_is_name T
def Fr_is_pair (T : Tx K mg) : Fd := fun as Pr Re => (wRet (wAndV (wIsi .tuple T.objs (wVar 0)) (wOp (φEqU false) (wBt φLen (wCons (wVar 0) wNil)) (wC (.int 2))))) (startE 1 as) (fin Pr Re)
theorem okr_is_pair (T : Tx K mg) : FnOk P w K mg base (L2.CX P w) 1 T.is_pair T.is_pair_fd ["value"] (spP K 1 (Fr_is_pair T)) :=
  okP T.is_pair_F sc_is_pair rfl fun cdv A outer s H E B hr => ⟨_, pdss_one (pds_ret (pd_and (pd_isi (k := .tuple) T.objs_isi (by rfl) T.z_isinstance (by decide +kernel) (pd_var 0) (pe_bltn (v := .ty "tuple") (by rfl) T.z_tuple boot_tuple rfl)) (pd_one (pd_cmp (op_eqU hr.units) odEqU (pd_bt (pe_callB call_len (by rfl) T.z_len (by decide +kernel) (pda_cons (pd_var 0) pda_nil)) cdLen) pd_int (nomark _))))), fun _ _ _ _ hF => hF⟩
@[irreducible] def F_is_pair (T : Tx K mg) : Fd := Fr_is_pair T
theorem ok_is_pair (T : Tx K mg) : FnOk P w K mg base (L2.CX P w) 1 T.is_pair T.is_pair_fd ["value"] (spP K 1 (F_is_pair T)) := by
  unfold F_is_pair
  exact okr_is_pair T
def Fr_first_wrong (T : Tx K mg) : Fd := fun as Pr Re => (wSeq (wIfS (wNot (wTru (wIsi .tuple T.objs (wVar 0)))) (wRet (wUn φNeg (wC (.int 1)))) wNext)
      (wSeq (wFor (wEnum (wCons (wVar 0) wNil)) (sTup 2 (sCons (sName 2) (sCons (sName 3) sNil))) (wSeq (wIfS (wOr (wNot (wTru (wCall 1 (F_is_pair T) (wCons (wVar 3) wNil)))) (wOr (wNot (wTru (wCall 1 (F_is_name T) (wCons (wOp φIxU (wVar 3) (wC (.int 0))) wNil)))) (wNot (wTru (wCallL 1 T.is_count 1 (F_is_count T) (wCons (wOp φIxU (wVar 3) (wC (.int 1))) wNil)))))) (wRet (wVar 2)) wNext)
      (wIfS (wAnd (wOpB φGtU (wVar 2) (wC (.int 0))) (wOpB φLeU (wOp φIxU (wVar 3) (wC (.int 0))) (wOp φIxU (wOp φIxU (wVar 0) (wOp φSub (wVar 2) (wC (.int 1)))) (wC (.int 0))))) (wRet (wVar 2)) wNext)))
      (wRet (wC .non)))) (startE 4 as) (fin Pr Re)
theorem okr_first_wrong (T : Tx K mg) : FnOk P w K mg base (L2.CX P w) 3 T.first_wrong T.first_wrong_fd ["value", "is_right"] (spP K 2 (Fr_first_wrong T)) :=
  okP T.first_wrong_F sc_first_wrong rfl fun cdv A outer s H E B hr => ⟨_, pdss_cons (pds_if (pq_not (pq_tru (pd_isi (k := .tuple) T.objs_isi (by rfl) T.z_isinstance (by decide +kernel) (pd_var 0) (pe_bltn (v := .ty "tuple") (by rfl) T.z_tuple boot_tuple rfl)))) (pdss_one (pds_ret (pd_un un_neg udNeg pd_int))) pdss_nil)
      (pdss_cons (pds_for (passes_of rfl) rfl (pdi_enum (by rfl) T.z_enumerate (pda_cons (pd_var 0) pda_nil)) (pgd_tup rfl (pgds_cons (pgd_name (i := 2) sc_first_wrong.nd rfl (Or.inl rfl)) (pgds_cons (pgd_name (i := 3) sc_first_wrong.nd rfl (Or.inl rfl)) pgds_nil))) (pdss_cons (pds_if (pqw_pt (pqw_or (pq_not (pq_tru (pd_call (ok_is_pair T) (hr.mono (by omega)) (by rfl) T.is_pair_m T.is_pair_F.kp T.is_pair_b (takes_of rfl rfl rfl rfl) (pda_cons (pd_var 3) pda_nil)))) (pqw_or (pq_not (pq_tru (pd_call (ok_is_name T) (hr.mono (by omega)) (by rfl) T.is_name_m T.is_name_F.kp T.is_name_b (takes_of rfl rfl rfl rfl) (pda_cons (pd_ix ix_U odIxU (pd_var 3) pd_int (fun _ _ => rfl)) pda_nil)))) (pqw_or1 (pq_not (pq_tru (pd_callL (i := 1) (ok_is_count T) (hr.mono (by omega)) T.is_count_F.kp T.is_count_b (takes_of rfl rfl rfl rfl) (pda_cons (pd_ix ix_U odIxU (pd_var 3) pd_int (fun _ _ => rfl)) pda_nil)))))))) (pdss_one (pds_ret (pd_var 2))) pdss_nil)
      (pdss_one (pds_if (pqw_pt (pqw_and (pq_cmp (op_gtU hr.units) odOrd (pd_var 2) pd_int (nomark _)) (pqw_and1 (pq_cmp (op_leU hr.units) odOrd (pd_ix ix_U odIxU (pd_var 3) pd_int (fun _ _ => rfl)) (pd_ix ix_U odIxU (pd_ix ix_U odIxU (pd_var 0) (pd_op op_sub odSubU (pd_var 2) pd_int) (fun _ _ => rfl)) pd_int (fun _ _ => rfl)) (nomark _))))) (pdss_one (pds_ret (pd_var 2))) pdss_nil))))
      (pdss_one (pds_ret pd_non))), fun _ _ _ _ hF => hF⟩
@[irreducible] def F_first_wrong (T : Tx K mg) : Fd := Fr_first_wrong T
theorem ok_first_wrong (T : Tx K mg) : FnOk P w K mg base (L2.CX P w) 3 T.first_wrong T.first_wrong_fd ["value", "is_right"] (spP K 2 (F_first_wrong T)) := by
  unfold F_first_wrong
  exact okr_first_wrong T
def Fr_is_heap (T : Tx K mg) : Fd := fun as Pr Re => (wRet (wOp (φIsN false) (wCall 2 (F_first_wrong T) (wCons (wVar 0) (wCons (wC (.raw (.ref T.is_count))) wNil))) (wC .non))) (startE 1 as) (fin Pr Re)
theorem okr_is_heap (T : Tx K mg) : FnOk P w K mg base (L2.CX P w) 4 T.is_heap T.is_heap_fd ["value"] (spP K 1 (Fr_is_heap T)) :=
  okP T.is_heap_F sc_is_heap rfl fun cdv A outer s H E B hr => ⟨_, pdss_one (pds_ret (pd_cmp op_isN odIsN (pd_call (ok_first_wrong T) (hr.mono (by omega)) (by rfl) T.first_wrong_m T.first_wrong_F.kp T.first_wrong_b (takes_of rfl rfl rfl rfl) (pda_cons (pd_var 0) (pda_cons (pd_const (v := .ref T.is_count) (pe_glob (by rfl) T.is_count_m rfl) (fun _ _ => .raw _)) pda_nil))) pd_non (nomark _))), fun _ _ _ _ hF => hF⟩
@[irreducible] def F_is_heap (T : Tx K mg) : Fd := Fr_is_heap T
theorem ok_is_heap (T : Tx K mg) : FnOk P w K mg base (L2.CX P w) 4 T.is_heap T.is_heap_fd ["value"] (spP K 1 (F_is_heap T)) := by
  unfold F_is_heap
  exact okr_is_heap T
def Fr_added_up (T : Tx K mg) : Fd := fun as Pr Re => (wSeq (wSetS 1 (wSk wDNew))
      (wSeq (wFor (wWalk (wVar 0)) (sTup 2 (sCons (sName 2) (sCons (sName 3) sNil))) (fun env P => (∃ ks ds, env[1]? = some (.k ks ds)) ∧ wDPut 1 (wVar 2) (wOp φAdd (wDGet 1 (wVar 2) (wC (.int 0))) (wVar 3)) env P))
      (wLet 1 (wRet (wBt φTuple (wCons (wLV (wComp [2] (wWalk (wLV (wBl φSortD (wCons (wVar 1) wNil)))) (sName 2) (wOpB (φEqU true) (wDIx 1 (wVar 2)) (wC (.int 0))) (wTup (wCons (wVar 2) (wCons (wDIx 1 (wVar 2)) wNil))))) wNil)))))) (startE 4 as) (fin Pr Re)
theorem okr_added_up (T : Tx K mg) : FnOk P w K mg base (L2.CX P w) 1 T.added_up T.added_up_fd ["pairs"] (spP K 1 (Fr_added_up T)) :=
  okP T.added_up_F sc_added_up rfl fun cdv A outer s H E B hr => ⟨_, pdss_cons (pds_setS (i := 1) sc_added_up.nd rfl (Or.inr rfl) (psl_k pk_new))
      (pdss_cons (pds_for (passes_of rfl) rfl (pdi_walk (pd_var 0)) (pgd_tup rfl (pgds_cons (pgd_name (i := 2) sc_added_up.nd rfl (Or.inl rfl)) (pgds_cons (pgd_name (i := 3) sc_added_up.nd rfl (Or.inl rfl)) pgds_nil))) (pdss_one (pds_dput (ps_dput (hu_of hr) (pv 1) (pd_var 2) (pd_op op_addU odAddU (pd_dget2 (pe_dget2 (hu_of hr) (pv 1) (pd_var 2) pd_int ⟨by rfl, by rfl, by rfl, by rfl⟩)) (pd_var 3)) rfl))))
      (pdss_let 1 (pdss_one (pds_ret (pd_bt (pe_callTy call_tuple_of (by rfl) T.z_tuple (by decide +kernel) (pda_cons (pd_of_pl (pl_lc (own := [("place", 2)]) rfl sc_added_up.nd (pdi_walk (pd_of_pl (pl_bt (pe_callB (call_sortedD rfl) (by rfl) T.z_sorted (by decide +kernel) (pda_cons (pd_var 1) pda_nil)) cdSortD))) (blkOk_by (own := [("place", 2)]) (N := ["pairs", "totals", "place", "number"]) (sc := defScope s_added_up) (by decide +kernel)) (fun _ _ _ _ _ => pgc_name (i := 2) sc_added_up.nd rfl (Or.inl rfl)) (fun _ _ _ _ _ => pqs_one (pq_cmp (op_neU hr.units) odNeU (pd_dix (pe_dget (hu_of hr) (pv 1) (pd_var 2) (fun _ _ => rfl))) pd_int (nomark _))) (fun _ _ _ _ _ => pd_tup (pda_cons (pd_var 2) (pda_cons (pd_dix (pe_dget (hu_of hr) (pv 1) (pd_var 2) (fun _ _ => rfl))) pda_nil))))) pda_nil)) cdTuple))))), fun _ _ _ _ hF => hF⟩
@[irreducible] def F_added_up (T : Tx K mg) : Fd := Fr_added_up T
theorem ok_added_up (T : Tx K mg) : FnOk P w K mg base (L2.CX P w) 1 T.added_up T.added_up_fd ["pairs"] (spP K 1 (F_added_up T)) := by
  unfold F_added_up
  exact okr_added_up T
def Fr_amount (T : Tx K mg) : Fd := fun as Pr Re => (wSeq (wFor (wWalk (wVar 0)) (sTup 2 (sCons (sName 2) (sCons (sName 3) sNil))) (wIfS (wOpB (φEqU false) (wVar 2) (wVar 1)) (wRet (wVar 3)) wNext))
      (wRet (wC (.int 0)))) (startE 4 as) (fin Pr Re)
theorem okr_amount (T : Tx K mg) : FnOk P w K mg base (L2.CX P w) 1 T.amount T.amount_fd ["heap", "place"] (spP K 2 (Fr_amount T)) :=
  okP T.amount_F sc_amount rfl fun cdv A outer s H E B hr => ⟨_, pdss_cons (pds_for (passes_of rfl) rfl (pdi_walk (pd_var 0)) (pgd_tup rfl (pgds_cons (pgd_name (i := 2) sc_amount.nd rfl (Or.inl rfl)) (pgds_cons (pgd_name (i := 3) sc_amount.nd rfl (Or.inl rfl)) pgds_nil))) (pdss_one (pds_if (pq_cmp (op_eqU hr.units) odEqU (pd_var 2) (pd_var 1) (nomark _)) (pdss_one (pds_ret (pd_var 3))) pdss_nil)))
      (pdss_one (pds_ret pd_int)), fun _ _ _ _ hF => hF⟩
@[irreducible] def F_amount (T : Tx K mg) : Fd := Fr_amount T
theorem ok_amount (T : Tx K mg) : FnOk P w K mg base (L2.CX P w) 1 T.amount T.amount_fd ["heap", "place"] (spP K 2 (F_amount T)) := by
  unfold F_amount
  exact okr_amount T
def Fr_changes_joined (T : Tx K mg) : Fd := fun as Pr Re => (wRet (wCall 1 (F_added_up T) (wCons (wLV (wComp2 [1, 2] [2] (wWalk (wVar 0)) (sName 1) wYes (wWalk (wVar 1)) (sName 2) wYes (wVar 2))) wNil))) (startE 3 as) (fin Pr Re)
theorem okr_changes_joined (T : Tx K mg) : FnOk P w K mg base (L2.CX P w) 2 T.changes_joined T.changes_joined_fd ["changes"] (spP K 1 (Fr_changes_joined T)) :=
  okP T.changes_joined_F sc_changes_joined rfl fun cdv A outer s H E B hr => ⟨_, pdss_one (pds_ret (pd_call (ok_added_up T) (hr.mono (by omega)) (by rfl) T.added_up_m T.added_up_F.kp T.added_up_b (takes_of rfl rfl rfl rfl) (pda_cons (pd_of_pl (pl_lc2 (own := [("change", 1), ("pair", 2)]) (vs1 := [2]) rfl sc_changes_joined.nd (pdi_walk (pd_var 0)) (blkOk_by (own := [("change", 1), ("pair", 2)]) (N := ["changes", "change", "pair"]) (sc := defScope s_changes_joined) (by decide +kernel)) (by decide) (tgok_name (i := 1)) (fun _ _ _ _ _ => pgc_name (i := 1) sc_changes_joined.nd rfl (Or.inl rfl)) (fun _ _ _ _ _ => pqs_nil) (fun _ _ _ _ _ => pdi_walk (pd_var 1)) (fun _ _ _ _ _ => pgc_name (i := 2) sc_changes_joined.nd rfl (Or.inl rfl)) (fun _ _ _ _ _ => pqs_nil) (fun _ _ _ _ _ => pd_var 2))) pda_nil))), fun _ _ _ _ hF => hF⟩
@[irreducible] def F_changes_joined (T : Tx K mg) : Fd := Fr_changes_joined T
theorem ok_changes_joined (T : Tx K mg) : FnOk P w K mg base (L2.CX P w) 2 T.changes_joined T.changes_joined_fd ["changes"] (spP K 1 (F_changes_joined T)) := by
  unfold F_changes_joined
  exact okr_changes_joined T
def Fr_change_times (T : Tx K mg) : Fd := fun as Pr Re => (wRet (wCall 1 (F_added_up T) (wCons (wLV (wComp [2, 3] (wWalk (wVar 0)) (sTup 2 (sCons (sName 2) (sCons (sName 3) sNil))) wYes (wTup (wCons (wVar 2) (wCons (wOp φMul (wVar 3) (wVar 1)) wNil))))) wNil))) (startE 4 as) (fin Pr Re)
theorem okr_change_times (T : Tx K mg) : FnOk P w K mg base (L2.CX P w) 2 T.change_times T.change_times_fd ["change", "number"] (spP K 2 (Fr_change_times T)) :=
  okP T.change_times_F sc_change_times rfl fun cdv A outer s H E B hr => ⟨_, pdss_one (pds_ret (pd_call (ok_added_up T) (hr.mono (by omega)) (by rfl) T.added_up_m T.added_up_F.kp T.added_up_b (takes_of rfl rfl rfl rfl) (pda_cons (pd_of_pl (pl_lc (own := [("place", 2), ("shift", 3)]) rfl sc_change_times.nd (pdi_walk (pd_var 0)) (blkOk_by (own := [("place", 2), ("shift", 3)]) (N := ["change", "number", "place", "shift"]) (sc := defScope s_change_times) (by decide +kernel)) (fun _ _ _ _ _ => pgc_tup rfl (pgcs_cons (pgc_name (i := 2) sc_change_times.nd rfl (Or.inl rfl)) (pgcs_cons (pgc_name (i := 3) sc_change_times.nd rfl (Or.inl rfl)) pgcs_nil))) (fun _ _ _ _ _ => pqs_nil) (fun _ _ _ _ _ => pd_tup (pda_cons (pd_var 2) (pda_cons (pd_op op_mulU odMulU (pd_var 3) (pd_var 1)) pda_nil))))) pda_nil))), fun _ _ _ _ hF => hF⟩
@[irreducible] def F_change_times (T : Tx K mg) : Fd := Fr_change_times T
theorem ok_change_times (T : Tx K mg) : FnOk P w K mg base (L2.CX P w) 2 T.change_times T.change_times_fd ["change", "number"] (spP K 2 (F_change_times T)) := by
  unfold F_change_times
  exact okr_change_times T
def Fr_gap (T : Tx K mg) : Fd := fun as Pr Re => (wRet (wCall 1 (F_changes_joined T) (wCons (wTup (wCons (wVar 1) (wCons (wCall 2 (F_change_times T) (wCons (wVar 0) (wCons (wUn φNeg (wC (.int 1))) wNil))) wNil))) wNil))) (startE 2 as) (fin Pr Re)
theorem okr_gap (T : Tx K mg) : FnOk P w K mg base (L2.CX P w) 3 T.gap T.gap_fd ["heap", "other"] (spP K 2 (Fr_gap T)) :=
  okP T.gap_F sc_gap rfl fun cdv A outer s H E B hr => ⟨_, pdss_one (pds_ret (pd_call (ok_changes_joined T) (hr.mono (by omega)) (by rfl) T.changes_joined_m T.changes_joined_F.kp T.changes_joined_b (takes_of rfl rfl rfl rfl) (pda_cons (pd_tup (pda_cons (pd_var 1) (pda_cons (pd_call (ok_change_times T) (hr.mono (by omega)) (by rfl) T.change_times_m T.change_times_F.kp T.change_times_b (takes_of rfl rfl rfl rfl) (pda_cons (pd_var 0) (pda_cons (pd_un un_neg udNeg pd_int) pda_nil))) pda_nil))) pda_nil))), fun _ _ _ _ hF => hF⟩
@[irreducible] def F_gap (T : Tx K mg) : Fd := Fr_gap T
theorem ok_gap (T : Tx K mg) : FnOk P w K mg base (L2.CX P w) 3 T.gap T.gap_fd ["heap", "other"] (spP K 2 (F_gap T)) := by
  unfold F_gap
  exact okr_gap T
end
end K09
set_option maxRecDepth 100000
set_option maxHeartbeats 4000000
namespace K09
open PySem PySem.Spec PyProof.Rows L2 Pre Pd
section
variable {P : Program} {w : World} {K : PySem.W.Frag} {mg : Str → Option Value} {base : Heap}
def Fr_need_places (T : Tx K mg) : Fd := fun as Pr Re => (wSeq (wIfS (wNot (wTru (wIsi .tuple T.objs (wVar 0)))) (wRaise2 T.InvalidPlan "word" "at" (wC (.str "places")) (wUn φNeg (wC (.int 1)))) wNext)
      (wFor (wEnum (wCons (wVar 0) wNil)) (sTup 2 (sCons (sName 1) (sCons (sName 2) sNil))) (wIfS (wOr (wNot (wTru (wCall 1 (F_is_name T) (wCons (wVar 2) wNil)))) (wAnd (wOpB φGtU (wVar 1) (wC (.int 0))) (wOpB φLeU (wVar 2) (wOp φIxU (wVar 0) (wOp φSub (wVar 1) (wC (.int 1))))))) (wRaise2 T.InvalidPlan "word" "at" (wC (.str "places")) (wVar 1)) wNext))) (startE 3 as) (fin Pr Re)
theorem okr_need_places (T : Tx K mg) : FnOk P w K mg base (L2.CX P w) 3 T.need_places T.need_places_fd ["places"] (spP K 1 (Fr_need_places T)) :=
  okP T.need_places_F sc_need_places rfl fun cdv A outer s H E B hr => ⟨_, pdss_cons (pds_if (pq_not (pq_tru (pd_isi (k := .tuple) T.objs_isi (by rfl) T.z_isinstance (by decide +kernel) (pd_var 0) (pe_bltn (v := .ty "tuple") (by rfl) T.z_tuple boot_tuple rfl)))) (pdss_one (pds_raise2 rfl (takes_of rfl rfl rfl rfl) (Xc.pmk_er PySem.F.excBase_Exception T.InvalidPlan_E.c T.InvalidPlan_iC T.InvalidPlan_tI (ok_InvalidPlan_i T) (hr.mono (by omega)) T.InvalidPlan_b .nil pass0 (by rfl) T.InvalidPlan_m (pa_cons pd_str (pa_cons (pd_un un_neg udNeg pd_int) pa_nil))))) pdss_nil)
      (pdss_one (pds_for (passes_of rfl) rfl (pdi_enum (by rfl) T.z_enumerate (pda_cons (pd_var 0) pda_nil)) (pgd_tup rfl (pgds_cons (pgd_name (i := 1) sc_need_places.nd rfl (Or.inl rfl)) (pgds_cons (pgd_name (i := 2) sc_need_places.nd rfl (Or.inl rfl)) pgds_nil))) (pdss_one (pds_if (pqw_pt (pqw_or (pq_not (pq_tru (pd_call (ok_is_name T) (hr.mono (by omega)) (by rfl) T.is_name_m T.is_name_F.kp T.is_name_b (takes_of rfl rfl rfl rfl) (pda_cons (pd_var 2) pda_nil)))) (pqw_or1 (pqw_pt (pqw_and (pq_cmp (op_gtU hr.units) odOrd (pd_var 1) pd_int (nomark _)) (pqw_and1 (pq_cmp (op_leU hr.units) odOrd (pd_var 2) (pd_ix ix_U odIxU (pd_var 0) (pd_op op_sub odSubU (pd_var 1) pd_int) (fun _ _ => rfl)) (nomark _)))))))) (pdss_one (pds_raise2 rfl (takes_of rfl rfl rfl rfl) (Xc.pmk_er PySem.F.excBase_Exception T.InvalidPlan_E.c T.InvalidPlan_iC T.InvalidPlan_tI (ok_InvalidPlan_i T) (hr.mono (by omega)) T.InvalidPlan_b .nil pass0 (by rfl) T.InvalidPlan_m (pa_cons pd_str (pa_cons (pd_var 1) pa_nil))))) pdss_nil)))), fun _ _ _ _ hF => hF⟩
@[irreducible] def F_need_places (T : Tx K mg) : Fd := Fr_need_places T
theorem ok_need_places (T : Tx K mg) : FnOk P w K mg base (L2.CX P w) 3 T.need_places T.need_places_fd ["places"] (spP K 1 (F_need_places T)) := by
  unfold F_need_places
  exact okr_need_places T
def Fr_is_side (T : Tx K mg) : Fd := fun as Pr Re => (wSeq (wIfS (wOr (wNot (wTru (wCall 1 (F_is_heap T) (wCons (wVar 1) wNil)))) (wOpB (φEqU false) (wVar 1) (wTup wNil))) (wRet (wC (.bl false))) wNext)
      (wRet (wBt (φAll false) (wCons (wLV (wComp [2, 3] (wWalk (wVar 1)) (sTup 2 (sCons (sName 2) (sCons (sName 3) sNil))) wYes (wAndV (wOp (φInU false) (wVar 2) (wVar 0)) (wOp φLeU (wVar 3) (wC (.int 9)))))) wNil)))) (startE 4 as) (fin Pr Re)
theorem okr_is_side (T : Tx K mg) : FnOk P w K mg base (L2.CX P w) 5 T.is_side T.is_side_fd ["places", "heap"] (spP K 2 (Fr_is_side T)) :=
  okP T.is_side_F sc_is_side rfl fun cdv A outer s H E B hr => ⟨_, pdss_cons (pds_if (pqw_pt (pqw_or (pq_not (pq_tru (pd_call (ok_is_heap T) (hr.mono (by omega)) (by rfl) T.is_heap_m T.is_heap_F.kp T.is_heap_b (takes_of rfl rfl rfl rfl) (pda_cons (pd_var 1) pda_nil)))) (pqw_or1 (pq_cmp (op_eqU hr.units) odEqU (pd_var 1) (pd_tup pda_nil) (nomark _))))) (pdss_one (pds_ret pd_bl)) pdss_nil)
      (pdss_one (pds_ret (pd_bt (pe_callB (cr_all rfl) (by rfl) T.z_all (by decide +kernel) (pda_cons (pd_of_pl (pl_lc (own := [("place", 2), ("number", 3)]) rfl sc_is_side.nd (pdi_walk (pd_var 1)) (blkOk_by (own := [("place", 2), ("number", 3)]) (N := ["places", "heap", "place", "number"]) (sc := defScope s_is_side) (by decide +kernel)) (fun _ _ _ _ _ => pgc_tup rfl (pgcs_cons (pgc_name (i := 2) sc_is_side.nd rfl (Or.inl rfl)) (pgcs_cons (pgc_name (i := 3) sc_is_side.nd rfl (Or.inl rfl)) pgcs_nil))) (fun _ _ _ _ _ => pqs_nil) (fun _ _ _ _ _ => pd_and (pd_cmp (op_inU hr.units65) odInU (pd_var 2) (pd_var 0) rfl) (pd_one (pd_cmp (op_leU hr.units) odOrd (pd_var 3) (pd_const (v := .int 9) (pe_glob (by rfl) T.MOST_PAPERS_m ⟨_, rfl⟩) (fun _ _ => .int _)) (nomark _)))))) pda_nil)) cdAll))), fun _ _ _ _ hF => hF⟩
@[irreducible] def F_is_side (T : Tx K mg) : Fd := Fr_is_side T
theorem ok_is_side (T : Tx K mg) : FnOk P w K mg base (L2.CX P w) 5 T.is_side T.is_side_fd ["places", "heap"] (spP K 2 (F_is_side T)) := by
  unfold F_is_side
  exact okr_is_side T
def Fr_is_step (T : Tx K mg) : Fd := fun as Pr Re => (wSeq (wIfS (wOr (wNot (wTru (wIsi .tuple T.objs (wVar 1)))) (wOr (wOpB (φEqU true) (wBt φLen (wCons (wVar 1) wNil)) (wC (.int 3))) (wNot (wTru (wCall 1 (F_is_name T) (wCons (wOp φIxU (wVar 1) (wC (.int 0))) wNil)))))) (wRet (wC (.bl false))) wNext)
      (wSeq (wIfS (wOr (wNot (wTru (wCall 2 (F_is_side T) (wCons (wVar 0) (wCons (wOp φIxU (wVar 1) (wC (.int 1))) wNil))))) (wNot (wTru (wCall 2 (F_is_side T) (wCons (wVar 0) (wCons (wOp φIxU (wVar 1) (wC (.int 2))) wNil)))))) (wRet (wC (.bl false))) wNext)
      (wRet (wAndV (wOp (φEqU false) (wCall 2 (F_amount T) (wCons (wOp φIxU (wVar 1) (wC (.int 1))) (wCons (wVar 3) wNil))) (wC (.int 0))) (wOp (φEqU false) (wCall 2 (F_amount T) (wCons (wOp φIxU (wVar 1) (wC (.int 2))) (wCons (wVar 2) wNil))) (wC (.int 0))))))) (startE 4 as) (fin Pr Re)
theorem okr_is_step (T : Tx K mg) : FnOk P w K mg base (L2.CX P w) 6 T.is_step T.is_step_fd ["places", "step", "start", "end"] (spP K 4 (Fr_is_step T)) :=
  okP T.is_step_F sc_is_step rfl fun cdv A outer s H E B hr => ⟨_, pdss_cons (pds_if (pqw_pt (pqw_or (pq_not (pq_tru (pd_isi (k := .tuple) T.objs_isi (by rfl) T.z_isinstance (by decide +kernel) (pd_var 1) (pe_bltn (v := .ty "tuple") (by rfl) T.z_tuple boot_tuple rfl)))) (pqw_or (pq_cmp (op_neU hr.units) odNeU (pd_bt (pe_callB call_len (by rfl) T.z_len (by decide +kernel) (pda_cons (pd_var 1) pda_nil)) cdLen) pd_int (nomark _)) (pqw_or1 (pq_not (pq_tru (pd_call (ok_is_name T) (hr.mono (by omega)) (by rfl) T.is_name_m T.is_name_F.kp T.is_name_b (takes_of rfl rfl rfl rfl) (pda_cons (pd_ix ix_U odIxU (pd_var 1) pd_int (fun _ _ => rfl)) pda_nil)))))))) (pdss_one (pds_ret pd_bl)) pdss_nil)
      (pdss_cons (pds_if (pqw_pt (pqw_or (pq_not (pq_tru (pd_call (ok_is_side T) (hr.mono (by omega)) (by rfl) T.is_side_m T.is_side_F.kp T.is_side_b (takes_of rfl rfl rfl rfl) (pda_cons (pd_var 0) (pda_cons (pd_ix ix_U odIxU (pd_var 1) pd_int (fun _ _ => rfl)) pda_nil))))) (pqw_or1 (pq_not (pq_tru (pd_call (ok_is_side T) (hr.mono (by omega)) (by rfl) T.is_side_m T.is_side_F.kp T.is_side_b (takes_of rfl rfl rfl rfl) (pda_cons (pd_var 0) (pda_cons (pd_ix ix_U odIxU (pd_var 1) pd_int (fun _ _ => rfl)) pda_nil)))))))) (pdss_one (pds_ret pd_bl)) pdss_nil)
      (pdss_one (pds_ret (pd_and (pd_cmp (op_eqU hr.units) odEqU (pd_call (ok_amount T) (hr.mono (by omega)) (by rfl) T.amount_m T.amount_F.kp T.amount_b (takes_of rfl rfl rfl rfl) (pda_cons (pd_ix ix_U odIxU (pd_var 1) pd_int (fun _ _ => rfl)) (pda_cons (pd_var 3) pda_nil))) pd_int (nomark _)) (pd_one (pd_cmp (op_eqU hr.units) odEqU (pd_call (ok_amount T) (hr.mono (by omega)) (by rfl) T.amount_m T.amount_F.kp T.amount_b (takes_of rfl rfl rfl rfl) (pda_cons (pd_ix ix_U odIxU (pd_var 1) pd_int (fun _ _ => rfl)) (pda_cons (pd_var 2) pda_nil))) pd_int (nomark _))))))), fun _ _ _ _ hF => hF⟩
@[irreducible] def F_is_step (T : Tx K mg) : Fd := Fr_is_step T
theorem ok_is_step (T : Tx K mg) : FnOk P w K mg base (L2.CX P w) 6 T.is_step T.is_step_fd ["places", "step", "start", "end"] (spP K 4 (F_is_step T)) := by
  unfold F_is_step
  exact okr_is_step T
def Fr_need_steps (T : Tx K mg) : Fd := fun as Pr Re => (wSeq (wIfS (wNot (wTru (wIsi .tuple T.objs (wVar 1)))) (wRaise2 T.InvalidPlan "word" "at" (wC (.str "steps")) (wUn φNeg (wC (.int 1)))) wNext)
      (wFor (wEnum (wCons (wVar 1) wNil)) (sTup 2 (sCons (sName 4) (sCons (sName 5) sNil))) (wSeq (wIfS (wNot (wTru (wCall 4 (F_is_step T) (wCons (wVar 0) (wCons (wVar 5) (wCons (wVar 2) (wCons (wVar 3) wNil))))))) (wRaise2 T.InvalidPlan "word" "at" (wC (.str "steps")) (wVar 4)) wNext)
      (wIfS (wAnd (wOpB φGtU (wVar 4) (wC (.int 0))) (wOpB φLeU (wOp φIxU (wVar 5) (wC (.int 0))) (wOp φIxU (wOp φIxU (wVar 1) (wOp φSub (wVar 4) (wC (.int 1)))) (wC (.int 0))))) (wRaise2 T.InvalidPlan "word" "at" (wC (.str "steps")) (wVar 4)) wNext)))) (startE 6 as) (fin Pr Re)
theorem okr_need_steps (T : Tx K mg) : FnOk P w K mg base (L2.CX P w) 7 T.need_steps T.need_steps_fd ["places", "steps", "start", "end"] (spP K 4 (Fr_need_steps T)) :=
  okP T.need_steps_F sc_need_steps rfl fun cdv A outer s H E B hr => ⟨_, pdss_cons (pds_if (pq_not (pq_tru (pd_isi (k := .tuple) T.objs_isi (by rfl) T.z_isinstance (by decide +kernel) (pd_var 1) (pe_bltn (v := .ty "tuple") (by rfl) T.z_tuple boot_tuple rfl)))) (pdss_one (pds_raise2 rfl (takes_of rfl rfl rfl rfl) (Xc.pmk_er PySem.F.excBase_Exception T.InvalidPlan_E.c T.InvalidPlan_iC T.InvalidPlan_tI (ok_InvalidPlan_i T) (hr.mono (by omega)) T.InvalidPlan_b .nil pass0 (by rfl) T.InvalidPlan_m (pa_cons pd_str (pa_cons (pd_un un_neg udNeg pd_int) pa_nil))))) pdss_nil)
      (pdss_one (pds_for (passes_of rfl) rfl (pdi_enum (by rfl) T.z_enumerate (pda_cons (pd_var 1) pda_nil)) (pgd_tup rfl (pgds_cons (pgd_name (i := 4) sc_need_steps.nd rfl (Or.inl rfl)) (pgds_cons (pgd_name (i := 5) sc_need_steps.nd rfl (Or.inl rfl)) pgds_nil))) (pdss_cons (pds_if (pq_not (pq_tru (pd_call (ok_is_step T) (hr.mono (by omega)) (by rfl) T.is_step_m T.is_step_F.kp T.is_step_b (takes_of rfl rfl rfl rfl) (pda_cons (pd_var 0) (pda_cons (pd_var 5) (pda_cons (pd_var 2) (pda_cons (pd_var 3) pda_nil))))))) (pdss_one (pds_raise2 rfl (takes_of rfl rfl rfl rfl) (Xc.pmk_er PySem.F.excBase_Exception T.InvalidPlan_E.c T.InvalidPlan_iC T.InvalidPlan_tI (ok_InvalidPlan_i T) (hr.mono (by omega)) T.InvalidPlan_b .nil pass0 (by rfl) T.InvalidPlan_m (pa_cons pd_str (pa_cons (pd_var 4) pa_nil))))) pdss_nil)
      (pdss_one (pds_if (pqw_pt (pqw_and (pq_cmp (op_gtU hr.units) odOrd (pd_var 4) pd_int (nomark _)) (pqw_and1 (pq_cmp (op_leU hr.units) odOrd (pd_ix ix_U odIxU (pd_var 5) pd_int (fun _ _ => rfl)) (pd_ix ix_U odIxU (pd_ix ix_U odIxU (pd_var 1) (pd_op op_sub odSubU (pd_var 4) pd_int) (fun _ _ => rfl)) pd_int (fun _ _ => rfl)) (nomark _))))) (pdss_one (pds_raise2 rfl (takes_of rfl rfl rfl rfl) (Xc.pmk_er PySem.F.excBase_Exception T.InvalidPlan_E.c T.InvalidPlan_iC T.InvalidPlan_tI (ok_InvalidPlan_i T) (hr.mono (by omega)) T.InvalidPlan_b .nil pass0 (by rfl) T.InvalidPlan_m (pa_cons pd_str (pa_cons (pd_var 4) pa_nil))))) pdss_nil))))), fun _ _ _ _ hF => hF⟩
@[irreducible] def F_need_steps (T : Tx K mg) : Fd := Fr_need_steps T
theorem ok_need_steps (T : Tx K mg) : FnOk P w K mg base (L2.CX P w) 7 T.need_steps T.need_steps_fd ["places", "steps", "start", "end"] (spP K 4 (F_need_steps T)) := by
  unfold F_need_steps
  exact okr_need_steps T
def Fr_Plan_i (T : Tx K mg) : Fm := fun as Pr Re => ∀ x, (wSeq (wDrop (wCall 1 (F_need_places T) (wCons (wVar 1) wNil)))
      (wSeq (wIfS (wOr (wNot (wTru (wCall 1 (F_is_name T) (wCons (wVar 3) wNil)))) (wOpB (φInU true) (wVar 3) (wVar 1))) (wRaise2 T.InvalidPlan "word" "at" (wC (.str "start")) (wUn φNeg (wC (.int 1)))) wNext)
      (wSeq (wIfS (wOr (wNot (wTru (wCall 1 (F_is_name T) (wCons (wVar 4) wNil)))) (wOr (wOpB (φInU true) (wVar 4) (wVar 1)) (wOpB (φEqU false) (wVar 4) (wVar 3)))) (wRaise2 T.InvalidPlan "word" "at" (wC (.str "end")) (wUn φNeg (wC (.int 1)))) wNext)
      (wSeq (wDrop (wCall 4 (F_need_steps T) (wCons (wVar 1) (wCons (wVar 2) (wCons (wVar 3) (wCons (wVar 4) wNil))))))
      (wSeq (fun env P => (∃ q ns ds, env[0]? = some (.i q T.Plan ns ds)) ∧ wStF 0 "places" (wVar 1) env P)
      (wSeq (fun env P => (∃ q ns ds, env[0]? = some (.i q T.Plan ns ds)) ∧ wStF 0 "steps" (wVar 2) env P)
      (wSeq (fun env P => (∃ q ns ds, env[0]? = some (.i q T.Plan ns ds)) ∧ wStF 0 "start" (wVar 3) env P)
      (fun env P => (∃ q ns ds, env[0]? = some (.i q T.Plan ns ds)) ∧ wStF 0 "end" (wVar 4) env P)))))))) (startM x T.Plan 5 as) (finM x T.Plan Pr Re)
theorem okr_Plan_i (T : Tx K mg) : FnOk P w K mg base (L2.CX P w) 8 T.Plan_i T.Plan_fd ["self", "places", "steps", "start", "end"] (spMk K T.Plan 4 (Fr_Plan_i T)) :=
  okM T.Plan_F sc_Plan_i rfl (by decide) fun cdv A outer s H E B hr => ⟨_, pdss_cons (pds_expr (pd_call (ok_need_places T) (hr.mono (by omega)) (by rfl) T.need_places_m T.need_places_F.kp T.need_places_b (takes_of rfl rfl rfl rfl) (pda_cons (pd_var 1) pda_nil)))
      (pdss_cons (pds_if (pqw_pt (pqw_or (pq_not (pq_tru (pd_call (ok_is_name T) (hr.mono (by omega)) (by rfl) T.is_name_m T.is_name_F.kp T.is_name_b (takes_of rfl rfl rfl rfl) (pda_cons (pd_var 3) pda_nil)))) (pqw_or1 (pq_cmp (op_notInU hr.units65) odNotInU (pd_var 3) (pd_var 1) rfl)))) (pdss_one (pds_raise2 rfl (takes_of rfl rfl rfl rfl) (Xc.pmk_er PySem.F.excBase_Exception T.InvalidPlan_E.c T.InvalidPlan_iC T.InvalidPlan_tI (ok_InvalidPlan_i T) (hr.mono (by omega)) T.InvalidPlan_b .nil pass0 (by rfl) T.InvalidPlan_m (pa_cons pd_str (pa_cons (pd_un un_neg udNeg pd_int) pa_nil))))) pdss_nil)
      (pdss_cons (pds_if (pqw_pt (pqw_or (pq_not (pq_tru (pd_call (ok_is_name T) (hr.mono (by omega)) (by rfl) T.is_name_m T.is_name_F.kp T.is_name_b (takes_of rfl rfl rfl rfl) (pda_cons (pd_var 4) pda_nil)))) (pqw_or (pq_cmp (op_notInU hr.units65) odNotInU (pd_var 4) (pd_var 1) rfl) (pqw_or1 (pq_cmp (op_eqU hr.units) odEqU (pd_var 4) (pd_var 3) (nomark _)))))) (pdss_one (pds_raise2 rfl (takes_of rfl rfl rfl rfl) (Xc.pmk_er PySem.F.excBase_Exception T.InvalidPlan_E.c T.InvalidPlan_iC T.InvalidPlan_tI (ok_InvalidPlan_i T) (hr.mono (by omega)) T.InvalidPlan_b .nil pass0 (by rfl) T.InvalidPlan_m (pa_cons pd_str (pa_cons (pd_un un_neg udNeg pd_int) pa_nil))))) pdss_nil)
      (pdss_cons (pds_expr (pd_call (ok_need_steps T) (hr.mono (by omega)) (by rfl) T.need_steps_m T.need_steps_F.kp T.need_steps_b (takes_of rfl rfl rfl rfl) (pda_cons (pd_var 1) (pda_cons (pd_var 2) (pda_cons (pd_var 3) (pda_cons (pd_var 4) pda_nil))))))
      (pdss_cons (pds_stf (T.fl_places T.Plan (by simp [Tx.objs])).1 (T.fl_places T.Plan (by simp [Tx.objs])).2 (ps_fld (pv 0) (pd_var 1) (by rfl)))
      (pdss_cons (pds_stf (T.fl_steps T.Plan (by simp [Tx.objs])).1 (T.fl_steps T.Plan (by simp [Tx.objs])).2 (ps_fld (pv 0) (pd_var 2) (by rfl)))
      (pdss_cons (pds_stf (T.fl_start T.Plan (by simp [Tx.objs])).1 (T.fl_start T.Plan (by simp [Tx.objs])).2 (ps_fld (pv 0) (pd_var 3) (by rfl)))
      (pdss_one (pds_stf (T.fl_end T.Plan (by simp [Tx.objs])).1 (T.fl_end T.Plan (by simp [Tx.objs])).2 (ps_fld (pv 0) (pd_var 4) (by rfl)))))))))), fun x _ _ _ _ hF => hF x⟩
@[irreducible] def F_Plan_i (T : Tx K mg) : Fm := Fr_Plan_i T
theorem ok_Plan_i (T : Tx K mg) : FnOk P w K mg base (L2.CX P w) 8 T.Plan_i T.Plan_fd ["self", "places", "steps", "start", "end"] (spMk K T.Plan 4 (F_Plan_i T)) := by
  unfold F_Plan_i
  exact okr_Plan_i T
def Fr_step_of (T : Tx K mg) : Fd := fun as Pr Re => (wSeq (wFor (wWalk (wFlds T.objs "steps" (wVar 0))) (sName 2) (wIfS (wOpB (φEqU false) (wOp φIxU (wVar 2) (wC (.int 0))) (wVar 1)) (wRet (wVar 2)) wNext))
      (wRaise1 T.NoName "name" (wVar 1))) (startE 3 as) (fin Pr Re)
theorem okr_step_of (T : Tx K mg) : FnOk P w K mg base (L2.CX P w) 3 T.step_of T.step_of_fd ["plan", "name"] (spP K 2 (Fr_step_of T)) :=
  okP T.step_of_F sc_step_of rfl fun cdv A outer s H E B hr => ⟨_, pdss_cons (pds_for (passes_of rfl) rfl (pdi_walk (pd_flds T.fl_steps (pd_var 0))) (pgd_name (i := 2) sc_step_of.nd rfl (Or.inl rfl)) (pdss_one (pds_if (pq_cmp (op_eqU hr.units) odEqU (pd_ix ix_U odIxU (pd_var 2) pd_int (fun _ _ => rfl)) (pd_var 1) (nomark _)) (pdss_one (pds_ret (pd_var 2))) pdss_nil)))
      (pdss_one (pds_raise1 rfl (takes_of rfl rfl rfl rfl) (Xc.pmk_er PySem.F.excBase_LookupError T.NoName_E.c T.NoName_iC T.NoName_tI (ok_NoName_i T) (hr.mono (by omega)) T.NoName_b .nil pass0 (by rfl) T.NoName_m (pa_cons (pd_var 1) pa_nil)))), fun _ _ _ _ hF => hF⟩
@[irreducible] def F_step_of (T : Tx K mg) : Fd := Fr_step_of T
theorem ok_step_of (T : Tx K mg) : FnOk P w K mg base (L2.CX P w) 3 T.step_of T.step_of_fd ["plan", "name"] (spP K 2 (F_step_of T)) := by
  unfold F_step_of
  exact okr_step_of T
def Fr_step_change (T : Tx K mg) : Fd := fun as Pr Re => (wSeq (wSetS 2 (wSv (wCall 2 (F_step_of T) (wCons (wVar 0) (wCons (wVar 1) wNil)))))
      (wRet (wCall 2 (F_gap T) (wCons (wOp φIxU (wVar 2) (wC (.int 1))) (wCons (wOp φIxU (wVar 2) (wC (.int 2))) wNil))))) (startE 3 as) (fin Pr Re)
theorem okr_step_change (T : Tx K mg) : FnOk P w K mg base (L2.CX P w) 4 T.step_change T.step_change_fd ["plan", "name"] (spP K 2 (Fr_step_change T)) :=
  okP T.step_change_F sc_step_change rfl fun cdv A outer s H E B hr => ⟨_, pdss_cons (pds_setS (i := 2) sc_step_change.nd rfl (Or.inl rfl) (psl_v (pd_call (ok_step_of T) (hr.mono (by omega)) (by rfl) T.step_of_m T.step_of_F.kp T.step_of_b (takes_of rfl rfl rfl rfl) (pda_cons (pd_var 0) (pda_cons (pd_var 1) pda_nil)))))
      (pdss_one (pds_ret (pd_call (ok_gap T) (hr.mono (by omega)) (by rfl) T.gap_m T.gap_F.kp T.gap_b (takes_of rfl rfl rfl rfl) (pda_cons (pd_ix ix_U odIxU (pd_var 2) pd_int (fun _ _ => rfl)) (pda_cons (pd_ix ix_U odIxU (pd_var 2) pd_int (fun _ _ => rfl)) pda_nil))))), fun _ _ _ _ hF => hF⟩
@[irreducible] def F_step_change (T : Tx K mg) : Fd := Fr_step_change T
theorem ok_step_change (T : Tx K mg) : FnOk P w K mg base (L2.CX P w) 4 T.step_change T.step_change_fd ["plan", "name"] (spP K 2 (F_step_change T)) := by
  unfold F_step_change
  exact okr_step_change T
def Fr_names_of (T : Tx K mg) : Fd := fun as Pr Re => (wRet (wBt φTuple (wCons (wLV (wComp [1] (wWalk (wFlds T.objs "steps" (wVar 0))) (sName 1) wYes (wOp φIxU (wVar 1) (wC (.int 0))))) wNil))) (startE 2 as) (fin Pr Re)
theorem okr_names_of (T : Tx K mg) : FnOk P w K mg base (L2.CX P w) 1 T.names_of T.names_of_fd ["plan"] (spP K 1 (Fr_names_of T)) :=
  okP T.names_of_F sc_names_of rfl fun cdv A outer s H E B hr => ⟨_, pdss_one (pds_ret (pd_bt (pe_callTy call_tuple_of (by rfl) T.z_tuple (by decide +kernel) (pda_cons (pd_of_pl (pl_lc (own := [("step", 1)]) rfl sc_names_of.nd (pdi_walk (pd_flds T.fl_steps (pd_var 0))) (blkOk_by (own := [("step", 1)]) (N := ["plan", "step"]) (sc := defScope s_names_of) (by decide +kernel)) (fun _ _ _ _ _ => pgc_name (i := 1) sc_names_of.nd rfl (Or.inl rfl)) (fun _ _ _ _ _ => pqs_nil) (fun _ _ _ _ _ => pd_ix ix_U odIxU (pd_var 1) pd_int (fun _ _ => rfl)))) pda_nil)) cdTuple)), fun _ _ _ _ hF => hF⟩
@[irreducible] def F_names_of (T : Tx K mg) : Fd := Fr_names_of T
theorem ok_names_of (T : Tx K mg) : FnOk P w K mg base (L2.CX P w) 1 T.names_of T.names_of_fd ["plan"] (spP K 1 (F_names_of T)) := by
  unfold F_names_of
  exact okr_names_of T
def Fr_first_wrong_row (T : Tx K mg) : Fd := fun as Pr Re => (wSeq (wIfS (wNot (wTru (wIsi .tuple T.objs (wVar 1)))) (wRet (wUn φNeg (wC (.int 1)))) wNext)
      (wSeq (wSetS 2 (wSv (wCall 1 (F_names_of T) (wCons (wVar 0) wNil))))
      (wSeq (wFor (wEnum (wCons (wVar 1) wNil)) (sTup 2 (sCons (sName 3) (sCons (sName 4) sNil))) (wIfS (wOr (wNot (wTru (wCall 1 (F_is_pair T) (wCons (wVar 4) wNil)))) (wOr (wNot (wTru (wIsi .str T.objs (wOp φIxU (wVar 4) (wC (.int 0)))))) (wOr (wOpB (φInU true) (wOp φIxU (wVar 4) (wC (.int 0))) (wVar 2)) (wNot (wTru (wCall 1 (F_is_count T) (wCons (wOp φIxU (wVar 4) (wC (.int 1))) wNil))))))) (wRet (wVar 3)) wNext))
      (wRet (wC .non))))) (startE 5 as) (fin Pr Re)
theorem okr_first_wrong_row (T : Tx K mg) : FnOk P w K mg base (L2.CX P w) 3 T.first_wrong_row T.first_wrong_row_fd ["plan", "value"] (spP K 2 (Fr_first_wrong_row T)) :=
  okP T.first_wrong_row_F sc_first_wrong_row rfl fun cdv A outer s H E B hr => ⟨_, pdss_cons (pds_if (pq_not (pq_tru (pd_isi (k := .tuple) T.objs_isi (by rfl) T.z_isinstance (by decide +kernel) (pd_var 1) (pe_bltn (v := .ty "tuple") (by rfl) T.z_tuple boot_tuple rfl)))) (pdss_one (pds_ret (pd_un un_neg udNeg pd_int))) pdss_nil)
      (pdss_cons (pds_setS (i := 2) sc_first_wrong_row.nd rfl (Or.inl rfl) (psl_v (pd_call (ok_names_of T) (hr.mono (by omega)) (by rfl) T.names_of_m T.names_of_F.kp T.names_of_b (takes_of rfl rfl rfl rfl) (pda_cons (pd_var 0) pda_nil))))
      (pdss_cons (pds_for (passes_of rfl) rfl (pdi_enum (by rfl) T.z_enumerate (pda_cons (pd_var 1) pda_nil)) (pgd_tup rfl (pgds_cons (pgd_name (i := 3) sc_first_wrong_row.nd rfl (Or.inl rfl)) (pgds_cons (pgd_name (i := 4) sc_first_wrong_row.nd rfl (Or.inl rfl)) pgds_nil))) (pdss_one (pds_if (pqw_pt (pqw_or (pq_not (pq_tru (pd_call (ok_is_pair T) (hr.mono (by omega)) (by rfl) T.is_pair_m T.is_pair_F.kp T.is_pair_b (takes_of rfl rfl rfl rfl) (pda_cons (pd_var 4) pda_nil)))) (pqw_or (pq_not (pq_tru (pd_isi (k := .str) T.objs_isi (by rfl) T.z_isinstance (by decide +kernel) (pd_ix ix_U odIxU (pd_var 4) pd_int (fun _ _ => rfl)) (pe_bltn (v := .ty "str") (by rfl) T.z_str boot_str rfl)))) (pqw_or (pq_cmp (op_notInU hr.units65) odNotInU (pd_ix ix_U odIxU (pd_var 4) pd_int (fun _ _ => rfl)) (pd_var 2) rfl) (pqw_or1 (pq_not (pq_tru (pd_call (ok_is_count T) (hr.mono (by omega)) (by rfl) T.is_count_m T.is_count_F.kp T.is_count_b (takes_of rfl rfl rfl rfl) (pda_cons (pd_ix ix_U odIxU (pd_var 4) pd_int (fun _ _ => rfl)) pda_nil))))))))) (pdss_one (pds_ret (pd_var 3))) pdss_nil)))
      (pdss_one (pds_ret pd_non)))), fun _ _ _ _ hF => hF⟩
@[irreducible] def F_first_wrong_row (T : Tx K mg) : Fd := Fr_first_wrong_row T
theorem ok_first_wrong_row (T : Tx K mg) : FnOk P w K mg base (L2.CX P w) 3 T.first_wrong_row T.first_wrong_row_fd ["plan", "value"] (spP K 2 (F_first_wrong_row T)) := by
  unfold F_first_wrong_row
  exact okr_first_wrong_row T
def Fr_need_run (T : Tx K mg) : Fd := fun as Pr Re => (wSeq (wSetS 2 (wSv (wCall 2 (F_first_wrong_row T) (wCons (wVar 0) (wCons (wVar 1) wNil)))))
      (wIfS (wOpB (φIsN true) (wVar 2) (wC .non)) (wRaise1 T.InvalidRun "at" (wVar 2)) wNext)) (startE 3 as) (fin Pr Re)
theorem okr_need_run (T : Tx K mg) : FnOk P w K mg base (L2.CX P w) 4 T.need_run T.need_run_fd ["plan", "value"] (spP K 2 (Fr_need_run T)) :=
  okP T.need_run_F sc_need_run rfl fun cdv A outer s H E B hr => ⟨_, pdss_cons (pds_setS (i := 2) sc_need_run.nd rfl (Or.inl rfl) (psl_v (pd_call (ok_first_wrong_row T) (hr.mono (by omega)) (by rfl) T.first_wrong_row_m T.first_wrong_row_F.kp T.first_wrong_row_b (takes_of rfl rfl rfl rfl) (pda_cons (pd_var 0) (pda_cons (pd_var 1) pda_nil)))))
      (pdss_one (pds_if (pq_cmp op_notN odNotN (pd_var 2) pd_non (nomark _)) (pdss_one (pds_raise1 rfl (takes_of rfl rfl rfl rfl) (Xc.pmk_er PySem.F.excBase_Exception T.InvalidRun_E.c T.InvalidRun_iC T.InvalidRun_tI (ok_InvalidRun_i T) (hr.mono (by omega)) T.InvalidRun_b .nil pass0 (by rfl) T.InvalidRun_m (pa_cons (pd_var 2) pa_nil)))) pdss_nil)), fun _ _ _ _ hF => hF⟩
@[irreducible] def F_need_run (T : Tx K mg) : Fd := Fr_need_run T
theorem ok_need_run (T : Tx K mg) : FnOk P w K mg base (L2.CX P w) 4 T.need_run T.need_run_fd ["plan", "value"] (spP K 2 (F_need_run T)) := by
  unfold F_need_run
  exact okr_need_run T
def Fr_run_sum (T : Tx K mg) : Fd := fun as Pr Re => (wRet (wCall 1 (F_changes_joined T) (wCons (wTup (wCons (wVar 0) wNil)) wNil))) (startE 1 as) (fin Pr Re)
theorem okr_run_sum (T : Tx K mg) : FnOk P w K mg base (L2.CX P w) 3 T.run_sum T.run_sum_fd ["run"] (spP K 1 (Fr_run_sum T)) :=
  okP T.run_sum_F sc_run_sum rfl fun cdv A outer s H E B hr => ⟨_, pdss_one (pds_ret (pd_call (ok_changes_joined T) (hr.mono (by omega)) (by rfl) T.changes_joined_m T.changes_joined_F.kp T.changes_joined_b (takes_of rfl rfl rfl rfl) (pda_cons (pd_tup (pda_cons (pd_var 0) pda_nil)) pda_nil))), fun _ _ _ _ hF => hF⟩
@[irreducible] def F_run_sum (T : Tx K mg) : Fd := Fr_run_sum T
theorem ok_run_sum (T : Tx K mg) : FnOk P w K mg base (L2.CX P w) 3 T.run_sum T.run_sum_fd ["run"] (spP K 1 (F_run_sum T)) := by
  unfold F_run_sum
  exact okr_run_sum T
def Fr_sum_change (T : Tx K mg) : Fd := fun as Pr Re => (wRet (wCall 1 (F_changes_joined T) (wCons (wLV (wComp [2, 3] (wWalk (wVar 1)) (sTup 2 (sCons (sName 2) (sCons (sName 3) sNil))) wYes (wCall 2 (F_change_times T) (wCons (wCall 2 (F_step_change T) (wCons (wVar 0) (wCons (wVar 2) wNil))) (wCons (wVar 3) wNil))))) wNil))) (startE 4 as) (fin Pr Re)
theorem okr_sum_change (T : Tx K mg) : FnOk P w K mg base (L2.CX P w) 5 T.sum_change T.sum_change_fd ["plan", "steps"] (spP K 2 (Fr_sum_change T)) :=
  okP T.sum_change_F sc_sum_change rfl fun cdv A outer s H E B hr => ⟨_, pdss_one (pds_ret (pd_call (ok_changes_joined T) (hr.mono (by omega)) (by rfl) T.changes_joined_m T.changes_joined_F.kp T.changes_joined_b (takes_of rfl rfl rfl rfl) (pda_cons (pd_of_pl (pl_lc (own := [("name", 2), ("number", 3)]) rfl sc_sum_change.nd (pdi_walk (pd_var 1)) (blkOk_by (own := [("name", 2), ("number", 3)]) (N := ["plan", "steps", "name", "number"]) (sc := defScope s_sum_change) (by decide +kernel)) (fun _ _ _ _ _ => pgc_tup rfl (pgcs_cons (pgc_name (i := 2) sc_sum_change.nd rfl (Or.inl rfl)) (pgcs_cons (pgc_name (i := 3) sc_sum_change.nd rfl (Or.inl rfl)) pgcs_nil))) (fun _ _ _ _ _ => pqs_nil) (fun _ _ _ _ _ => pd_call (ok_change_times T) (hr.mono (by omega)) (by rfl) T.change_times_m T.change_times_F.kp T.change_times_b takes0 (pda_cons (pd_call (ok_step_change T) (hr.mono (by omega)) (by rfl) T.step_change_m T.step_change_F.kp T.step_change_b takes0 (pda_cons (pd_var 0) (pda_cons (pd_var 2) pda_nil))) (pda_cons (pd_var 3) pda_nil))))) pda_nil))), fun _ _ _ _ hF => hF⟩
@[irreducible] def F_sum_change (T : Tx K mg) : Fd := Fr_sum_change T
theorem ok_sum_change (T : Tx K mg) : FnOk P w K mg base (L2.CX P w) 5 T.sum_change T.sum_change_fd ["plan", "steps"] (spP K 2 (F_sum_change T)) := by
  unfold F_sum_change
  exact okr_sum_change T
def Fr_steps_in (T : Tx K mg) : Fd := fun as Pr Re => (wRet (wBt φSum (wCons (wLV (wComp [1, 2] (wWalk (wVar 0)) (sTup 2 (sCons (sName 1) (sCons (sName 2) sNil))) wYes (wVar 2))) wNil))) (startE 3 as) (fin Pr Re)
theorem okr_steps_in (T : Tx K mg) : FnOk P w K mg base (L2.CX P w) 1 T.steps_in T.steps_in_fd ["run"] (spP K 1 (Fr_steps_in T)) :=
  okP T.steps_in_F sc_steps_in rfl fun cdv A outer s H E B hr => ⟨_, pdss_one (pds_ret (pd_bt (pe_callB (cr_sum rfl) (by rfl) T.z_sum (by decide +kernel) (pda_cons (pd_of_pl (pl_lc (own := [("_", 1), ("number", 2)]) rfl sc_steps_in.nd (pdi_walk (pd_var 0)) (blkOk_by (own := [("_", 1), ("number", 2)]) (N := ["run", "_", "number"]) (sc := defScope s_steps_in) (by decide +kernel)) (fun _ _ _ _ _ => pgc_tup rfl (pgcs_cons (pgc_name (i := 1) sc_steps_in.nd rfl (Or.inl rfl)) (pgcs_cons (pgc_name (i := 2) sc_steps_in.nd rfl (Or.inl rfl)) pgcs_nil))) (fun _ _ _ _ _ => pqs_nil) (fun _ _ _ _ _ => pd_var 2))) pda_nil)) cdSum)), fun _ _ _ _ hF => hF⟩
@[irreducible] def F_steps_in (T : Tx K mg) : Fd := Fr_steps_in T
theorem ok_steps_in (T : Tx K mg) : FnOk P w K mg base (L2.CX P w) 1 T.steps_in T.steps_in_fd ["run"] (spP K 1 (F_steps_in T)) := by
  unfold F_steps_in
  exact okr_steps_in T
def Fr_folded (T : Tx K mg) : Fd := fun as Pr Re => (wSeq (wSetS 1 (wSl_ (wLst wNil)))
      (wSeq (wFor (wWalk (wVar 0)) (sTup 2 (sCons (sName 2) (sCons (sName 3) sNil))) (wSeq (wIfS (wLendQ 1 (wAnd (wTru (wVar 1)) (wOpB (φEqU false) (wOp φIxU (wOp φIxU (wVar 1) (wUn φNeg (wC (.int 1)))) (wC (.int 0))) (wVar 2)))) (wSetE 3 (wOpE φAdd (wVar 3) (wIxE φIxU (wPop 1) (wC (.int 1))))) wNext)
      (wApp' 1 (wTup (wCons (wVar 2) (wCons (wVar 3) wNil))))))
      (wLet 1 (wRet (wBt φTuple (wCons (wVar 1) wNil)))))) (startE 4 as) (fin Pr Re)
theorem okr_folded (T : Tx K mg) : FnOk P w K mg base (L2.CX P w) 1 T.folded T.folded_fd ["run"] (spP K 1 (Fr_folded T)) :=
  okP T.folded_F sc_folded rfl fun cdv A outer s H E B hr => ⟨_, pdss_cons (pds_setS (i := 1) sc_folded.nd rfl (Or.inl rfl) (psl_l (pl_lst pda_nil)))
      (pdss_cons (pds_for (passes_of rfl) rfl (pdi_walk (pd_var 0)) (pgd_tup rfl (pgds_cons (pgd_name (i := 2) sc_folded.nd rfl (Or.inl rfl)) (pgds_cons (pgd_name (i := 3) sc_folded.nd rfl (Or.inl rfl)) pgds_nil))) (pdss_cons (pds_if (pq_lend 1 (pqw_pt (pqw_and (pq_tru (pd_var 1)) (pqw_and1 (pq_cmp (op_eqU hr.units) odEqU (pd_ix ix_U odIxU (pd_ix ix_U odIxU (pd_var 1) (pd_un un_neg udNeg pd_int) (fun _ _ => rfl)) pd_int (fun _ _ => rfl)) (pd_var 2) (nomark _)))))) (pdss_one (pds_setE (i := 3) sc_folded.nd rfl (Or.inl rfl) (pde_op op_addU odAddU (pd_var 3) (pde_ix ix_U odIxU (pde_pop (pe_bm0 PySem.F.plainAttrs_list PySem.F.slot_list_pop PySem.F.type_list_pop mt_pop (pv 1))) pd_int (fun _ _ => rfl))))) pdss_nil)
      (pdss_one (pds_append (ps_expr (pe_bm PySem.F.plainAttrs_list PySem.F.slot_list_append PySem.F.type_list_append mt_append (pv 1) (pa_cons (pd_tup (pda_cons (pd_var 2) (pda_cons (pd_var 3) pda_nil))) pa_nil)) (by rfl))))))
      (pdss_let 1 (pdss_one (pds_ret (pd_bt (pe_callTy call_tuple_of (by rfl) T.z_tuple (by decide +kernel) (pda_cons (pd_var 1) pda_nil)) cdTuple))))), fun _ _ _ _ hF => hF⟩
@[irreducible] def F_folded (T : Tx K mg) : Fd := Fr_folded T
theorem ok_folded (T : Tx K mg) : FnOk P w K mg base (L2.CX P w) 1 T.folded T.folded_fd ["run"] (spP K 1 (F_folded T)) := by
  unfold F_folded
  exact okr_folded T
end
end K09
set_option maxRecDepth 100000
set_option maxHeartbeats 4000000
namespace K09
open PySem PySem.Spec PyProof.Rows L2 Pre Pd
section
variable {P : Program} {w : World} {K : PySem.W.Frag} {mg : Str → Option Value} {base : Heap}
def Fr_law_box (T : Tx K mg) : Fd := fun as Pr Re => (wSeq (wSetS 2 (wSv (wOp φAdd (wOp φMul (wC (.int 7919)) (wVar 1)) (wC (.int 2311)))))
      (wSeq (wIfS (wOpB φLtU (wVar 1) (wBt φLen (wCons (wVar 0) wNil))) (wSetS 2 (wSv (wBt φAbs (wCons (wOp φIxU (wVar 0) (wVar 1)) wNil)))) (wIfS (wOpB φGtU (wBt φLen (wCons (wVar 0) wNil)) (wC (.int 0))) (wSetS 2 (wSv (wOp φAdd (wVar 2) (wOp φMul (wOp φMod (wBt φInt (wCons (wBt φAbs (wCons (wOp φIxU (wVar 0) (wOp φMod (wBt φInt (wCons (wVar 1) wNil)) (wBt φLen (wCons (wVar 0) wNil)))) wNil)) wNil)) (wC (.int 2147483629))) (wC (.int 60013)))))) wNext))
      (wRet (wHid BoxP (wLst (wCons (wOp φIxU (wLV (wLst (wCons (wC (.int 0)) (wCons (wVar 2) wNil)))) (wBt φInt (wCons (wOp φGeU (wVar 2) (wOp φPow (wC (.int 10)) (wC (.int 18)))) wNil))) (wCons (wOp φAdd (wOp φMod (wBt φInt (wCons (wOp φAdd (wOp φMul (wOp φMod (wBt φInt (wCons (wVar 2) wNil)) (wC (.int 2147483629))) (wC (.int 48271))) (wOp φMul (wC (.int 69621)) (wVar 1))) wNil)) (wC (.int 2147483629))) (wC (.int 1))) (wCons (wC (.int 0)) wNil)))))))) (startE 3 as) (fin Pr Re)
theorem okr_law_box (T : Tx K mg) : FnOk P w K mg base (L2.CX P w) 1 T.law_box T.law_box_fd ["script", "k"] (spP K 2 (Fr_law_box T)) :=
  okP T.law_box_F sc_law_box rfl fun cdv A outer s H E B hr => ⟨_, pdss_cons (pds_setS (i := 2) sc_law_box.nd rfl (Or.inl rfl) (psl_v (pd_op op_addU odAddU (pd_op op_mulU odMulU pd_int (pd_var 1)) pd_int)))
      (pdss_cons (pds_if (pq_cmp (op_ltU hr.units) odOrd (pd_var 1) (pd_bt (pe_callB call_len (by rfl) T.z_len (by decide +kernel) (pda_cons (pd_var 0) pda_nil)) cdLen) (nomark _)) (pdss_one (pds_setS (i := 2) sc_law_box.nd rfl (Or.inl rfl) (psl_v (pd_bt (pe_callB call_abs (by rfl) T.z_abs (by decide +kernel) (pda_cons (pd_ix ix_U odIxU (pd_var 0) (pd_var 1) (fun _ _ => rfl)) pda_nil)) cdAbs)))) (pdss_one (pds_if (pq_cmp (op_gtU hr.units) odOrd (pd_bt (pe_callB call_len (by rfl) T.z_len (by decide +kernel) (pda_cons (pd_var 0) pda_nil)) cdLen) pd_int (nomark _)) (pdss_one (pds_setS (i := 2) sc_law_box.nd rfl (Or.inl rfl) (psl_v (pd_op op_addU odAddU (pd_var 2) (pd_op op_mulU odMulU (pd_op op_modN odModU (pd_bt (pe_callTy call_int1 (by rfl) T.z_int (by decide +kernel) (pda_cons (pd_bt (pe_callB call_abs (by rfl) T.z_abs (by decide +kernel) (pda_cons (pd_ix ix_U odIxU (pd_var 0) (pd_op op_modN odModU (pd_bt (pe_callTy call_int1 (by rfl) T.z_int (by decide +kernel) (pda_cons (pd_var 1) pda_nil)) cdInt) (pd_bt (pe_callB call_len (by rfl) T.z_len (by decide +kernel) (pda_cons (pd_var 0) pda_nil)) cdLen)) (fun _ _ => rfl)) pda_nil)) cdAbs) pda_nil)) cdInt) pd_int) pd_int))))) pdss_nil)))
      (pdss_one (pds_ret (pd_hid (φ := BoxP) (pl_lst (pda_cons (pd_ix ix_U odIxU (pd_of_pl (pl_lst (pda_cons pd_int (pda_cons (pd_var 2) pda_nil)))) (pd_bt (pe_callTy call_int1 (by rfl) T.z_int (by decide +kernel) (pda_cons (pd_cmp (op_geU hr.units) odOrd (pd_var 2) (pd_op op_pow odPowU pd_int pd_int) (nomark _)) pda_nil)) cdInt) (fun _ _ => rfl)) (pda_cons (pd_op op_addU odAddU (pd_op op_modN odModU (pd_bt (pe_callTy call_int1 (by rfl) T.z_int (by decide +kernel) (pda_cons (pd_op op_addU odAddU (pd_op op_mulU odMulU (pd_op op_modN odModU (pd_bt (pe_callTy call_int1 (by rfl) T.z_int (by decide +kernel) (pda_cons (pd_var 2) pda_nil)) cdInt) pd_int) pd_int) (pd_op op_mulU odMulU pd_int (pd_var 1))) pda_nil)) cdInt) pd_int) pd_int) (pda_cons pd_int pda_nil)))))))), fun _ _ _ _ hF => hF⟩
@[irreducible] def F_law_box (T : Tx K mg) : Fd := Fr_law_box T
theorem ok_law_box (T : Tx K mg) : FnOk P w K mg base (L2.CX P w) 1 T.law_box T.law_box_fd ["script", "k"] (spP K 2 (F_law_box T)) := by
  unfold F_law_box
  exact okr_law_box T
def Fr_law_pick (T : Tx K mg) : Fd := fun as Pr Re => (wRet (wOp φIxU (wVar 1) (wCall 2 (F_law_take T) (wCons (wVar 0) (wCons (wBt φLen (wCons (wVar 1) wNil)) wNil))))) (startE 2 as) (fin Pr Re)
theorem okr_law_pick (T : Tx K mg) : FnOk P w K mg base (L2.CX P w) 2 T.law_pick T.law_pick_fd ["box", "some"] (spP K 2 (Fr_law_pick T)) :=
  okP T.law_pick_F sc_law_pick rfl fun cdv A outer s H E B hr => ⟨_, pdss_one (pds_ret (pd_ix ix_U odIxU (pd_var 1) (pd_call (ok_law_take T) (hr.mono (by omega)) (by rfl) T.law_take_m T.law_take_F.kp T.law_take_b (takes_of rfl rfl rfl rfl) (pda_cons (pd_var 0) (pda_cons (pd_bt (pe_callB call_len (by rfl) T.z_len (by decide +kernel) (pda_cons (pd_var 1) pda_nil)) cdLen) pda_nil))) (fun _ _ => rfl))), fun _ _ _ _ hF => hF⟩
@[irreducible] def F_law_pick (T : Tx K mg) : Fd := Fr_law_pick T
theorem ok_law_pick (T : Tx K mg) : FnOk P w K mg base (L2.CX P w) 2 T.law_pick T.law_pick_fd ["box", "some"] (spP K 2 (F_law_pick T)) := by
  unfold F_law_pick
  exact okr_law_pick T
def Fr_law_mixed (T : Tx K mg) : Fd := fun as Pr Re => (wSeq (wPar2 2 3 (wSl_ (wBl φList (wCons (wVar 1) wNil))) (wSl_ (wLst wNil)))
      (wSeq (wFor (wWalk (wVar 1)) (sName 4) (wAppE 3 (wPopAt 2 (wCall 2 (F_law_take T) (wCons (wVar 0) (wCons (wLend 2 (wBt φLen (wCons (wVar 2) wNil))) wNil))))))
      (wLet 3 (wRet (wVar 3))))) (startE 5 as) (fin Pr Re)
theorem okr_law_mixed (T : Tx K mg) : FnOk P w K mg base (L2.CX P w) 2 T.law_mixed T.law_mixed_fd ["box", "some"] (spP K 2 (Fr_law_mixed T)) :=
  okP T.law_mixed_F sc_law_mixed rfl fun cdv A outer s H E B hr => ⟨_, pdss_cons (pds_par2 (i := 2) (j := 3) (by rfl) sc_law_mixed.nd rfl rfl (by decide) rfl rfl (psl_l (pl_bt (pe_callTy call_list_of (by rfl) T.z_list (by decide +kernel) (pda_cons (pd_var 1) pda_nil)) cdList)) (psl_l (pl_lst pda_nil)) (by rfl))
      (pdss_cons (pds_for (passes_of rfl) rfl (pdi_walk (pd_var 1)) (pgd_name (i := 4) sc_law_mixed.nd rfl (Or.inl rfl)) (pdss_one (pds_appE (ps_expr (pe_bm PySem.F.plainAttrs_list PySem.F.slot_list_append PySem.F.type_list_append mt_append (pv 3) (pa_cons (pde_popAt (pe_bm PySem.F.plainAttrs_list PySem.F.slot_list_pop PySem.F.type_list_pop mt_popAt (pv 2) (pa_cons (pd_call (ok_law_take T) (hr.mono (by omega)) (by rfl) T.law_take_m T.law_take_F.kp T.law_take_b (takes_of rfl rfl rfl rfl) (pda_cons (pd_var 0) (pda_cons (pd_lend 2 (pd_bt (pe_callB call_len (by rfl) T.z_len (by decide +kernel) (pda_cons (pd_var 2) pda_nil)) cdLen)) pda_nil))) pa_nil))) pa_nil)) (by rfl)))))
      (pdss_let 3 (pdss_one (pds_ret (pd_var 3))))), fun _ _ _ _ hF => hF⟩
@[irreducible] def F_law_mixed (T : Tx K mg) : Fd := Fr_law_mixed T
theorem ok_law_mixed (T : Tx K mg) : FnOk P w K mg base (L2.CX P w) 2 T.law_mixed T.law_mixed_fd ["box", "some"] (spP K 2 (F_law_mixed T)) := by
  unfold F_law_mixed
  exact okr_law_mixed T
def Fn_law_same (T : Tx K mg) : Nat → Fd
  | 0 => fun _ _ _ => False
  | m + 1 => fun as Pr Re => (wSeq (wIfS (wOpB (φIsN false) (wVar 1) (wC .non)) (wRet (wOp (φIsN false) (wVar 0) (wC .non))) wNext)
      (wSeq (wIfS (wTru (wIsi .bool T.objs (wVar 1))) (wRet (wAndV (wIsi .bool T.objs (wVar 0)) (wOp (φEqU false) (wVar 0) (wVar 1)))) wNext)
      (wSeq (wIfS (wTru (wIsi .int T.objs (wVar 1))) (wRet (wAndV (wIsi .int T.objs (wVar 0)) (wAndV (wNotV (wIsi .bool T.objs (wVar 0))) (wOp (φEqU false) (wVar 0) (wVar 1))))) wNext)
      (wSeq (wIfS (wTru (wIsi .str T.objs (wVar 1))) (wRet (wAndV (wIsi .str T.objs (wVar 0)) (wOp (φEqU false) (wVar 0) (wVar 1)))) wNext)
      (wRet (wAndV (wIsi .tuple T.objs (wVar 0)) (wAndV (wOp (φEqU false) (wBt φLen (wCons (wVar 0) wNil)) (wBt φLen (wCons (wVar 1) wNil))) (wBt (φAll false) (wCons (wLV (wComp [2, 3] (wZip (wCons (wVar 0) (wCons (wVar 1) wNil))) (sTup 2 (sCons (sName 2) (sCons (sName 3) sNil))) wYes (wCall 2 (Fn_law_same T m) (wCons (wVar 2) (wCons (wVar 3) wNil))))) wNil))))))))) (startE 4 as) (fin Pr Re)
theorem okn_law_same (T : Tx K mg) : ∀ m, FnOk P w K mg base (L2.CX P w) (m + 0) T.law_same T.law_same_fd ["got", "due"] (spP K 2 (Fn_law_same T m))
  | 0 => okF rfl
  | m + 1 => (okP (k := m + 0) T.law_same_F sc_law_same rfl fun cdv A outer s H E B hr => ⟨_, pdss_cons (pds_if (pq_cmp op_isN odIsN (pd_var 1) pd_non (nomark _)) (pdss_one (pds_ret (pd_cmp op_isN odIsN (pd_var 0) pd_non (nomark _)))) pdss_nil)
      (pdss_cons (pds_if (pq_tru (pd_isi (k := .bool) T.objs_isi (by rfl) T.z_isinstance (by decide +kernel) (pd_var 1) (pe_bltn (v := .ty "bool") (by rfl) T.z_bool boot_bool rfl))) (pdss_one (pds_ret (pd_and (pd_isi (k := .bool) T.objs_isi (by rfl) T.z_isinstance (by decide +kernel) (pd_var 0) (pe_bltn (v := .ty "bool") (by rfl) T.z_bool boot_bool rfl)) (pd_one (pd_cmp (op_eqU hr.units) odEqU (pd_var 0) (pd_var 1) (nomark _)))))) pdss_nil)
      (pdss_cons (pds_if (pq_tru (pd_isi (k := .int) T.objs_isi (by rfl) T.z_isinstance (by decide +kernel) (pd_var 1) (pe_bltn (v := .ty "int") (by rfl) T.z_int boot_int rfl))) (pdss_one (pds_ret (pd_and (pd_isi (k := .int) T.objs_isi (by rfl) T.z_isinstance (by decide +kernel) (pd_var 0) (pe_bltn (v := .ty "int") (by rfl) T.z_int boot_int rfl)) (pd_and (pd_not (pd_isi (k := .bool) T.objs_isi (by rfl) T.z_isinstance (by decide +kernel) (pd_var 0) (pe_bltn (v := .ty "bool") (by rfl) T.z_bool boot_bool rfl))) (pd_one (pd_cmp (op_eqU hr.units) odEqU (pd_var 0) (pd_var 1) (nomark _))))))) pdss_nil)
      (pdss_cons (pds_if (pq_tru (pd_isi (k := .str) T.objs_isi (by rfl) T.z_isinstance (by decide +kernel) (pd_var 1) (pe_bltn (v := .ty "str") (by rfl) T.z_str boot_str rfl))) (pdss_one (pds_ret (pd_and (pd_isi (k := .str) T.objs_isi (by rfl) T.z_isinstance (by decide +kernel) (pd_var 0) (pe_bltn (v := .ty "str") (by rfl) T.z_str boot_str rfl)) (pd_one (pd_cmp (op_eqU hr.units) odEqU (pd_var 0) (pd_var 1) (nomark _)))))) pdss_nil)
      (pdss_one (pds_ret (pd_and (pd_isi (k := .tuple) T.objs_isi (by rfl) T.z_isinstance (by decide +kernel) (pd_var 0) (pe_bltn (v := .ty "tuple") (by rfl) T.z_tuple boot_tuple rfl)) (pd_and (pd_cmp (op_eqU hr.units) odEqU (pd_bt (pe_callB call_len (by rfl) T.z_len (by decide +kernel) (pda_cons (pd_var 0) pda_nil)) cdLen) (pd_bt (pe_callB call_len (by rfl) T.z_len (by decide +kernel) (pda_cons (pd_var 1) pda_nil)) cdLen) (nomark _)) (pd_one (pd_bt (pe_callB (cr_all rfl) (by rfl) T.z_all (by decide +kernel) (pda_cons (pd_of_pl (pl_lc (own := [("x", 2), ("y", 3)]) rfl sc_law_same.nd (pdi_zip (by rfl) T.z_zip (pda_cons (pd_var 0) (pda_cons (pd_var 1) pda_nil))) (blkOk_by (own := [("x", 2), ("y", 3)]) (N := ["got", "due", "x", "y"]) (sc := defScope s_law_same) (by decide +kernel)) (fun _ _ _ _ _ => pgc_tup rfl (pgcs_cons (pgc_name (i := 2) sc_law_same.nd rfl (Or.inl rfl)) (pgcs_cons (pgc_name (i := 3) sc_law_same.nd rfl (Or.inl rfl)) pgcs_nil))) (fun _ _ _ _ _ => pqs_nil) (fun _ _ _ _ _ => pd_call (okn_law_same T m) (hr.mono (by omega)) (by rfl) T.law_same_m T.law_same_F.kp T.law_same_b takes0 (pda_cons (pd_var 2) (pda_cons (pd_var 3) pda_nil))))) pda_nil)) cdAll))))))))), fun _ _ _ _ hF => hF⟩).mono (by omega)
@[irreducible] def F_law_same (T : Tx K mg) : Fd := Fn_law_same T 6
theorem ok_law_same (T : Tx K mg) : FnOk P w K mg base (L2.CX P w) 6 T.law_same T.law_same_fd ["got", "due"] (spP K 2 (F_law_same T)) := by
  unfold F_law_same
  exact okn_law_same T 6
def Fr_law_names (T : Tx K mg) : Fd := fun as Pr Re => (wSeq (wSetS 2 (wSv (wC (.str "abcdefghijklmnopqrstuvwxyz"))))
      (wSeq (wPar2 3 4 (wSv (wJoin (wC (.str "")) (wLV (wComp [11] (wRng1 (wCons (wCall 2 (F_law_take T) (wCons (wVar 0) (wCons (wC (.int 8)) wNil))) wNil)) (sName 11) wYes (wCall 2 (F_law_pick T) (wCons (wVar 0) (wCons (wVar 2) wNil))))))) (wSv (wCall 2 (F_law_take T) (wCons (wVar 0) (wCons (wC (.int 4)) wNil)))))
      (wSeq (wPar3 5 6 7 (wSv (wCall 2 (F_law_take T) (wCons (wVar 0) (wCons (wC (.int 26)) wNil)))) (wSv (wCall 2 (F_law_pick T) (wCons (wVar 0) (wCons (wLV (wLst (wCons (wC (.int 1)) (wCons (wC (.int 3)) (wCons (wC (.int 5)) (wCons (wC (.int 7)) (wCons (wC (.int 9)) (wCons (wC (.int 11)) (wCons (wC (.int 15)) (wCons (wC (.int 17)) (wCons (wC (.int 19)) (wCons (wC (.int 21)) (wCons (wC (.int 23)) (wCons (wC (.int 25)) wNil)))))))))))))) wNil)))) (wSl_ (wLst wNil)))
      (wSeq (wFor (wRng1 (wCons (wVar 1) wNil)) (sName 8) (wSeq (wSetS 9 (wSv (wOp φIxU (wVar 2) (wOp φMod (wBt φInt (wCons (wOp φAdd (wVar 5) (wOp φMul (wVar 6) (wVar 8))) wNil)) (wC (.int 26))))))
      (wSeq (wSetS 10 (wSv (wOp φFdv (wBt φLen (wCons (wVar 3) wNil)) (wC (.int 2)))))
      (wApp' 7 (wOp φIxU (wLV (wLst (wCons (wOp φAdd (wVar 3) (wVar 9)) (wCons (wOp φAdd (wVar 9) (wVar 3)) (wCons (wOp φMul (wVar 9) (wOp φAdd (wC (.int 1)) (wCall 2 (F_law_take T) (wCons (wVar 0) (wCons (wC (.int 8)) wNil))))) (wCons (wOp φAdd (wOp φAdd (wSl φSlU (wVar 3) wNoP (wPart (wVar 10))) (wVar 9)) (wSl φSlU (wVar 3) (wPart (wVar 10)) wNoP)) wNil)))))) (wVar 4))))))
      (wLet 7 (wRet (wLV (wBl φSorted (wCons (wVar 7) wNil))))))))) (startE 12 as) (fin Pr Re)
theorem okr_law_names (T : Tx K mg) : FnOk P w K mg base (L2.CX P w) 3 T.law_names T.law_names_fd ["box", "many"] (spP K 2 (Fr_law_names T)) :=
  okP T.law_names_F sc_law_names rfl fun cdv A outer s H E B hr => ⟨_, pdss_cons (pds_setS (i := 2) sc_law_names.nd rfl (Or.inr rfl) (psl_v pd_str))
      (pdss_cons (pds_par2 (i := 3) (j := 4) (by rfl) sc_law_names.nd rfl rfl (by decide) rfl rfl (psl_v (pd_join (pe_join pd_str (pd_of_pl (pl_lc (own := [("turn", 11)]) rfl sc_law_names.nd (pdi_range1 (by rfl) T.z_range (pda_cons (pd_call (ok_law_take T) (hr.mono (by omega)) (by rfl) T.law_take_m T.law_take_F.kp T.law_take_b (takes_of rfl rfl rfl rfl) (pda_cons (pd_var 0) (pda_cons pd_int pda_nil))) pda_nil)) (blkOk_by (own := [("turn", 11)]) (N := ["box", "many", "letters", "stem", "kind", "first", "stride", "found", "at", "one", "half", "turn"]) (sc := defScope s_law_names) (by decide +kernel)) (fun _ _ _ _ _ => pgc_name (i := 11) sc_law_names.nd rfl (Or.inl rfl)) (fun _ _ _ _ _ => pqs_nil) (fun _ _ _ _ _ => pd_call (ok_law_pick T) (hr.mono (by omega)) (by rfl) T.law_pick_m T.law_pick_F.kp T.law_pick_b takes0 (pda_cons (pd_var 0) (pda_cons (pd_var 2) pda_nil)))))))) (psl_v (pd_call (ok_law_take T) (hr.mono (by omega)) (by rfl) T.law_take_m T.law_take_F.kp T.law_take_b (takes_of rfl rfl rfl rfl) (pda_cons (pd_var 0) (pda_cons pd_int pda_nil)))) (by rfl))
      (pdss_cons (pds_par3 (i := 5) (j := 6) (l := 7) (by rfl) sc_law_names.nd rfl rfl rfl (by decide) (by decide) (by decide) rfl rfl rfl (psl_v (pd_call (ok_law_take T) (hr.mono (by omega)) (by rfl) T.law_take_m T.law_take_F.kp T.law_take_b (takes_of rfl rfl rfl rfl) (pda_cons (pd_var 0) (pda_cons pd_int pda_nil)))) (psl_v (pd_call (ok_law_pick T) (hr.mono (by omega)) (by rfl) T.law_pick_m T.law_pick_F.kp T.law_pick_b (takes_of rfl rfl rfl rfl) (pda_cons (pd_var 0) (pda_cons (pd_of_pl (pl_lst (pda_cons pd_int (pda_cons pd_int (pda_cons pd_int (pda_cons pd_int (pda_cons pd_int (pda_cons pd_int (pda_cons pd_int (pda_cons pd_int (pda_cons pd_int (pda_cons pd_int (pda_cons pd_int (pda_cons pd_int pda_nil)))))))))))))) pda_nil)))) (psl_l (pl_lst pda_nil)) (by rfl))
      (pdss_cons (pds_for (passes_of rfl) rfl (pdi_range1 (by rfl) T.z_range (pda_cons (pd_var 1) pda_nil)) (pgd_name (i := 8) sc_law_names.nd rfl (Or.inl rfl)) (pdss_cons (pds_setS (i := 9) sc_law_names.nd rfl (Or.inl rfl) (psl_v (pd_ix ix_U odIxU (pd_var 2) (pd_op op_modN odModU (pd_bt (pe_callTy call_int1 (by rfl) T.z_int (by decide +kernel) (pda_cons (pd_op op_addU odAddU (pd_var 5) (pd_op op_mulU odMulU (pd_var 6) (pd_var 8))) pda_nil)) cdInt) pd_int) (fun _ _ => rfl))))
      (pdss_cons (pds_setS (i := 10) sc_law_names.nd rfl (Or.inl rfl) (psl_v (pd_op op_fdivG odFdvU (pd_bt (pe_callB call_len (by rfl) T.z_len (by decide +kernel) (pda_cons (pd_var 3) pda_nil)) cdLen) pd_int)))
      (pdss_one (pds_append (ps_expr (pe_bm PySem.F.plainAttrs_list PySem.F.slot_list_append PySem.F.type_list_append mt_append (pv 7) (pa_cons (pd_ix ix_U odIxU (pd_of_pl (pl_lst (pda_cons (pd_op op_addU odAddU (pd_var 3) (pd_var 9)) (pda_cons (pd_op op_addU odAddU (pd_var 9) (pd_var 3)) (pda_cons (pd_op op_mulU odMulU (pd_var 9) (pd_op op_addU odAddU pd_int (pd_call (ok_law_take T) (hr.mono (by omega)) (by rfl) T.law_take_m T.law_take_F.kp T.law_take_b (takes_of rfl rfl rfl rfl) (pda_cons (pd_var 0) (pda_cons pd_int pda_nil))))) (pda_cons (pd_op op_addU odAddU (pd_op op_addU odAddU (pd_sl sl_U sdU (pd_var 3) pdo_none (pdo_some (pd_var 10))) (pd_var 9)) (pd_sl sl_U sdU (pd_var 3) (pdo_some (pd_var 10)) pdo_none)) pda_nil)))))) (pd_var 4) (fun _ _ => rfl)) pa_nil)) (by rfl)))))))
      (pdss_let 7 (pdss_one (pds_ret (pd_of_pl (pl_bt (pe_callB (cr_sortedD hr.units) (by rfl) T.z_sorted (by decide +kernel) (pda_cons (pd_var 7) pda_nil)) cdSorted)))))))), fun _ _ _ _ hF => hF⟩
@[irreducible] def F_law_names (T : Tx K mg) : Fd := Fr_law_names T
theorem ok_law_names (T : Tx K mg) : FnOk P w K mg base (L2.CX P w) 3 T.law_names T.law_names_fd ["box", "many"] (spP K 2 (F_law_names T)) := by
  unfold F_law_names
  exact okr_law_names T
def Fr_law_heap (T : Tx K mg) : Fd := fun as Pr Re => (wSeq (wSetS 4 (wSl_ (wLst wNil)))
      (wSeq (wFor (wRng1 (wCons (wOp φAdd (wC (.int 1)) (wCall 2 (F_law_take T) (wCons (wVar 0) (wCons (wVar 2) wNil)))) wNil)) (sName 5) (wSeq (wSetS 6 (wSv (wCall 2 (F_law_pick T) (wCons (wVar 0) (wCons (wVar 1) wNil)))))
      (wIfS (wLendQ 4 (wOpB (φInU true) (wVar 6) (wVar 4))) (wApp' 4 (wVar 6)) wNext)))
      (wLet 4 (wRet (wBt φTuple (wCons (wLV (wComp [6] (wWalk (wLV (wBl φSorted (wCons (wVar 4) wNil)))) (sName 6) wYes (wTup (wCons (wVar 6) (wCons (wOp φAdd (wC (.int 1)) (wCall 2 (F_law_take T) (wCons (wVar 0) (wCons (wVar 3) wNil)))) wNil))))) wNil)))))) (startE 7 as) (fin Pr Re)
theorem okr_law_heap (T : Tx K mg) : FnOk P w K mg base (L2.CX P w) 3 T.law_heap T.law_heap_fd ["box", "places", "most", "great"] (spP K 4 (Fr_law_heap T)) :=
  okP T.law_heap_F sc_law_heap rfl fun cdv A outer s H E B hr => ⟨_, pdss_cons (pds_setS (i := 4) sc_law_heap.nd rfl (Or.inl rfl) (psl_l (pl_lst pda_nil)))
      (pdss_cons (pds_for (passes_of rfl) rfl (pdi_range1 (by rfl) T.z_range (pda_cons (pd_op op_addU odAddU pd_int (pd_call (ok_law_take T) (hr.mono (by omega)) (by rfl) T.law_take_m T.law_take_F.kp T.law_take_b (takes_of rfl rfl rfl rfl) (pda_cons (pd_var 0) (pda_cons (pd_var 2) pda_nil)))) pda_nil)) (pgd_name (i := 5) sc_law_heap.nd rfl (Or.inl rfl)) (pdss_cons (pds_setS (i := 6) sc_law_heap.nd rfl (Or.inl rfl) (psl_v (pd_call (ok_law_pick T) (hr.mono (by omega)) (by rfl) T.law_pick_m T.law_pick_F.kp T.law_pick_b (takes_of rfl rfl rfl rfl) (pda_cons (pd_var 0) (pda_cons (pd_var 1) pda_nil)))))
      (pdss_one (pds_if (pq_lend 4 (pq_cmp (op_notInU hr.units65) odNotInU (pd_var 6) (pd_var 4) rfl)) (pdss_one (pds_append (ps_expr (pe_bm PySem.F.plainAttrs_list PySem.F.slot_list_append PySem.F.type_list_append mt_append (pv 4) (pa_cons (pd_var 6) pa_nil)) (by rfl)))) pdss_nil))))
      (pdss_let 4 (pdss_one (pds_ret (pd_bt (pe_callTy call_tuple_of (by rfl) T.z_tuple (by decide +kernel) (pda_cons (pd_of_pl (pl_lc (own := [("place", 6)]) rfl sc_law_heap.nd (pdi_walk (pd_of_pl (pl_bt (pe_callB (cr_sortedD hr.units) (by rfl) T.z_sorted (by decide +kernel) (pda_cons (pd_var 4) pda_nil)) cdSorted))) (blkOk_by (own := [("place", 6)]) (N := ["box", "places", "most", "great", "chosen", "turn", "place"]) (sc := defScope s_law_heap) (by decide +kernel)) (fun _ _ _ _ _ => pgc_name (i := 6) sc_law_heap.nd rfl (Or.inl rfl)) (fun _ _ _ _ _ => pqs_nil) (fun _ _ _ _ _ => pd_tup (pda_cons (pd_var 6) (pda_cons (pd_op op_addU odAddU pd_int (pd_call (ok_law_take T) (hr.mono (by omega)) (by rfl) T.law_take_m T.law_take_F.kp T.law_take_b takes0 (pda_cons (pd_var 0) (pda_cons (pd_var 3) pda_nil)))) pda_nil))))) pda_nil)) cdTuple))))), fun _ _ _ _ hF => hF⟩
@[irreducible] def F_law_heap (T : Tx K mg) : Fd := Fr_law_heap T
theorem ok_law_heap (T : Tx K mg) : FnOk P w K mg base (L2.CX P w) 3 T.law_heap T.law_heap_fd ["box", "places", "most", "great"] (spP K 4 (F_law_heap T)) := by
  unfold F_law_heap
  exact okr_law_heap T
def Fr_law_plan (T : Tx K mg) : Fd := fun as Pr Re => (wSeq (wSetS 1 (wSv (wCall 2 (F_law_names T) (wCons (wVar 0) (wCons (wOp φAdd (wC (.int 2)) (wCall 2 (F_law_take T) (wCons (wVar 0) (wCons (wC (.int 11)) wNil)))) wNil)))))
      (wSeq (wSetS 2 (wSv (wCall 2 (F_law_pick T) (wCons (wVar 0) (wCons (wVar 1) wNil)))))
      (wSeq (wSetS 3 (wSv (wCall 2 (F_law_pick T) (wCons (wVar 0) (wCons (wLV (wComp [10] (wWalk (wVar 1)) (sName 10) (wOpB (φEqU true) (wVar 10) (wVar 2)) (wVar 10))) wNil)))))
      (wSeq (wPar3 4 5 6 (wSv (wLV (wComp [10] (wWalk (wVar 1)) (sName 10) (wOpB (φEqU true) (wVar 10) (wVar 3)) (wVar 10)))) (wSv (wLV (wLst (wCons (wVar 2) wNil)))) (wSl_ (wLst wNil)))
      (wSeq (wFor (wWalk (wCall 2 (F_law_mixed T) (wCons (wVar 0) (wCons (wCall 2 (F_law_names T) (wCons (wVar 0) (wCons (wCall 2 (F_law_pick T) (wCons (wVar 0) (wCons (wLV (wLst (wCons (wC (.int 0)) (wCons (wC (.int 1)) (wCons (wC (.int 2)) (wCons (wC (.int 3)) (wCons (wC (.int 4)) (wCons (wC (.int 5)) (wCons (wC (.int 6)) (wCons (wC (.int 8)) (wCons (wC (.int 10)) (wCons (wC (.int 14)) wNil)))))))))))) wNil))) wNil))) wNil)))) (sName 7) (wSeq (wSetS 8 (wSv (wCall 4 (F_law_heap T) (wCons (wVar 0) (wCons (wOp φIxU (wLV (wLst (wCons (wVar 5) (wCons (wVar 4) wNil)))) (wBt φInt (wCons (wOp (φEqU false) (wCall 2 (F_law_take T) (wCons (wVar 0) (wCons (wC (.int 5)) wNil))) (wC (.int 0))) wNil))) (wCons (wCall 2 (F_law_pick T) (wCons (wVar 0) (wCons (wLV (wLst (wCons (wC (.int 1)) (wCons (wC (.int 1)) (wCons (wC (.int 2)) (wCons (wC (.int 4)) wNil)))))) wNil))) (wCons (wCall 2 (F_law_pick T) (wCons (wVar 0) (wCons (wLV (wLst (wCons (wC (.int 1)) (wCons (wC (.int 1)) (wCons (wC (.int 2)) (wCons (wC (.int 9)) wNil)))))) wNil))) wNil)))))))
      (wSeq (wSetS 9 (wSv (wCall 4 (F_law_heap T) (wCons (wVar 0) (wCons (wLV (wComp [10] (wWalk (wVar 1)) (sName 10) (wOpB (φEqU true) (wVar 10) (wVar 2)) (wVar 10))) (wCons (wCall 2 (F_law_pick T) (wCons (wVar 0) (wCons (wLV (wLst (wCons (wC (.int 1)) (wCons (wC (.int 2)) (wCons (wC (.int 2)) (wCons (wC (.int 5)) wNil)))))) wNil))) (wCons (wCall 2 (F_law_pick T) (wCons (wVar 0) (wCons (wLV (wLst (wCons (wC (.int 1)) (wCons (wC (.int 2)) (wCons (wC (.int 2)) (wCons (wC (.int 9)) wNil)))))) wNil))) wNil)))))))
      (wSeq (wSetS 5 (wSv (wOp φAdd (wVar 5) (wLV (wComp [10, 11] (wWalk (wVar 9)) (sTup 2 (sCons (sName 10) (sCons (sName 11) sNil))) (wOpB (φEqU true) (wVar 10) (wVar 3)) (wVar 10))))))
      (wApp' 6 (wTup (wCons (wVar 7) (wCons (wVar 8) (wCons (wVar 9) wNil)))))))))
      (wLet 6 (wRet (wTup (wCons (wBt φTuple (wCons (wVar 1) wNil)) (wCons (wBt φTuple (wCons (wLV (wBl φSorted (wCons (wVar 6) wNil))) wNil)) (wCons (wVar 2) (wCons (wVar 3) wNil)))))))))))) (startE 12 as) (fin Pr Re)
theorem okr_law_plan (T : Tx K mg) : FnOk P w K mg base (L2.CX P w) 4 T.law_plan T.law_plan_fd ["box"] (spP K 1 (Fr_law_plan T)) :=
  okP T.law_plan_F sc_law_plan rfl fun cdv A outer s H E B hr => ⟨_, pdss_cons (pds_setS (i := 1) sc_law_plan.nd rfl (Or.inl rfl) (psl_v (pd_call (ok_law_names T) (hr.mono (by omega)) (by rfl) T.law_names_m T.law_names_F.kp T.law_names_b (takes_of rfl rfl rfl rfl) (pda_cons (pd_var 0) (pda_cons (pd_op op_addU odAddU pd_int (pd_call (ok_law_take T) (hr.mono (by omega)) (by rfl) T.law_take_m T.law_take_F.kp T.law_take_b (takes_of rfl rfl rfl rfl) (pda_cons (pd_var 0) (pda_cons pd_int pda_nil)))) pda_nil)))))
      (pdss_cons (pds_setS (i := 2) sc_law_plan.nd rfl (Or.inr rfl) (psl_v (pd_call (ok_law_pick T) (hr.mono (by omega)) (by rfl) T.law_pick_m T.law_pick_F.kp T.law_pick_b (takes_of rfl rfl rfl rfl) (pda_cons (pd_var 0) (pda_cons (pd_var 1) pda_nil)))))
      (pdss_cons (pds_setS (i := 3) sc_law_plan.nd rfl (Or.inr rfl) (psl_v (pd_call (ok_law_pick T) (hr.mono (by omega)) (by rfl) T.law_pick_m T.law_pick_F.kp T.law_pick_b (takes_of rfl rfl rfl rfl) (pda_cons (pd_var 0) (pda_cons (pd_of_pl (pl_lc (own := [("place", 10)]) rfl sc_law_plan.nd (pdi_walk (pd_var 1)) (blkOk_by (own := [("place", 10)]) (N := ["box", "places", "start", "end", "open_places", "come", "steps", "name", "take", "lay", "place", "many"]) (sc := defScope s_law_plan) (by decide +kernel)) (fun _ _ _ _ _ => pgc_name (i := 10) sc_law_plan.nd rfl (Or.inl rfl)) (fun _ _ _ _ _ => pqs_one (pq_cmp (op_neU hr.units) odNeU (pd_var 10) (pd_var 2) (nomark _))) (fun _ _ _ _ _ => pd_var 10))) pda_nil)))))
      (pdss_cons (pds_par3 (i := 4) (j := 5) (l := 6) (by rfl) sc_law_plan.nd rfl rfl rfl (by decide) (by decide) (by decide) rfl rfl rfl (psl_v (pd_of_pl (pl_lc (own := [("place", 10)]) rfl sc_law_plan.nd (pdi_walk (pd_var 1)) (blkOk_by (own := [("place", 10)]) (N := ["box", "places", "start", "end", "open_places", "come", "steps", "name", "take", "lay", "place", "many"]) (sc := defScope s_law_plan) (by decide +kernel)) (fun _ _ _ _ _ => pgc_name (i := 10) sc_law_plan.nd rfl (Or.inl rfl)) (fun _ _ _ _ _ => pqs_one (pq_cmp (op_neU hr.units) odNeU (pd_var 10) (pd_var 3) (nomark _))) (fun _ _ _ _ _ => pd_var 10)))) (psl_v (pd_of_pl (pl_lst (pda_cons (pd_var 2) pda_nil)))) (psl_l (pl_lst pda_nil)) (by rfl))
      (pdss_cons (pds_for (passes_of rfl) rfl (pdi_walk (pd_call (ok_law_mixed T) (hr.mono (by omega)) (by rfl) T.law_mixed_m T.law_mixed_F.kp T.law_mixed_b (takes_of rfl rfl rfl rfl) (pda_cons (pd_var 0) (pda_cons (pd_call (ok_law_names T) (hr.mono (by omega)) (by rfl) T.law_names_m T.law_names_F.kp T.law_names_b (takes_of rfl rfl rfl rfl) (pda_cons (pd_var 0) (pda_cons (pd_call (ok_law_pick T) (hr.mono (by omega)) (by rfl) T.law_pick_m T.law_pick_F.kp T.law_pick_b (takes_of rfl rfl rfl rfl) (pda_cons (pd_var 0) (pda_cons (pd_of_pl (pl_lst (pda_cons pd_int (pda_cons pd_int (pda_cons pd_int (pda_cons pd_int (pda_cons pd_int (pda_cons pd_int (pda_cons pd_int (pda_cons pd_int (pda_cons pd_int (pda_cons pd_int pda_nil)))))))))))) pda_nil))) pda_nil))) pda_nil)))) (pgd_name (i := 7) sc_law_plan.nd rfl (Or.inl rfl)) (pdss_cons (pds_setS (i := 8) sc_law_plan.nd rfl (Or.inl rfl) (psl_v (pd_call (ok_law_heap T) (hr.mono (by omega)) (by rfl) T.law_heap_m T.law_heap_F.kp T.law_heap_b (takes_of rfl rfl rfl rfl) (pda_cons (pd_var 0) (pda_cons (pd_ix ix_U odIxU (pd_of_pl (pl_lst (pda_cons (pd_var 5) (pda_cons (pd_var 4) pda_nil)))) (pd_bt (pe_callTy call_int1 (by rfl) T.z_int (by decide +kernel) (pda_cons (pd_cmp (op_eqU hr.units) odEqU (pd_call (ok_law_take T) (hr.mono (by omega)) (by rfl) T.law_take_m T.law_take_F.kp T.law_take_b (takes_of rfl rfl rfl rfl) (pda_cons (pd_var 0) (pda_cons pd_int pda_nil))) pd_int (nomark _)) pda_nil)) cdInt) (fun _ _ => rfl)) (pda_cons (pd_call (ok_law_pick T) (hr.mono (by omega)) (by rfl) T.law_pick_m T.law_pick_F.kp T.law_pick_b (takes_of rfl rfl rfl rfl) (pda_cons (pd_var 0) (pda_cons (pd_of_pl (pl_lst (pda_cons pd_int (pda_cons pd_int (pda_cons pd_int (pda_cons pd_int pda_nil)))))) pda_nil))) (pda_cons (pd_call (ok_law_pick T) (hr.mono (by omega)) (by rfl) T.law_pick_m T.law_pick_F.kp T.law_pick_b (takes_of rfl rfl rfl rfl) (pda_cons (pd_var 0) (pda_cons (pd_of_pl (pl_lst (pda_cons pd_int (pda_cons pd_int (pda_cons pd_int (pda_cons pd_int pda_nil)))))) pda_nil))) pda_nil)))))))
      (pdss_cons (pds_setS (i := 9) sc_law_plan.nd rfl (Or.inl rfl) (psl_v (pd_call (ok_law_heap T) (hr.mono (by omega)) (by rfl) T.law_heap_m T.law_heap_F.kp T.law_heap_b (takes_of rfl rfl rfl rfl) (pda_cons (pd_var 0) (pda_cons (pd_of_pl (pl_lc (own := [("place", 10)]) rfl sc_law_plan.nd (pdi_walk (pd_var 1)) (blkOk_by (own := [("place", 10)]) (N := ["box", "places", "start", "end", "open_places", "come", "steps", "name", "take", "lay", "place", "many"]) (sc := defScope s_law_plan) (by decide +kernel)) (fun _ _ _ _ _ => pgc_name (i := 10) sc_law_plan.nd rfl (Or.inl rfl)) (fun _ _ _ _ _ => pqs_one (pq_cmp (op_neU hr.units) odNeU (pd_var 10) (pd_var 2) (nomark _))) (fun _ _ _ _ _ => pd_var 10))) (pda_cons (pd_call (ok_law_pick T) (hr.mono (by omega)) (by rfl) T.law_pick_m T.law_pick_F.kp T.law_pick_b (takes_of rfl rfl rfl rfl) (pda_cons (pd_var 0) (pda_cons (pd_of_pl (pl_lst (pda_cons pd_int (pda_cons pd_int (pda_cons pd_int (pda_cons pd_int pda_nil)))))) pda_nil))) (pda_cons (pd_call (ok_law_pick T) (hr.mono (by omega)) (by rfl) T.law_pick_m T.law_pick_F.kp T.law_pick_b (takes_of rfl rfl rfl rfl) (pda_cons (pd_var 0) (pda_cons (pd_of_pl (pl_lst (pda_cons pd_int (pda_cons pd_int (pda_cons pd_int (pda_cons pd_int pda_nil)))))) pda_nil))) pda_nil)))))))
      (pdss_cons (pds_setS (i := 5) sc_law_plan.nd rfl (Or.inl rfl) (psl_v (pd_op op_addU odAddU (pd_var 5) (pd_of_pl (pl_lc (own := [("place", 10), ("many", 11)]) rfl sc_law_plan.nd (pdi_walk (pd_var 9)) (blkOk_by (own := [("place", 10), ("many", 11)]) (N := ["box", "places", "start", "end", "open_places", "come", "steps", "name", "take", "lay", "place", "many"]) (sc := defScope s_law_plan) (by decide +kernel)) (fun _ _ _ _ _ => pgc_tup rfl (pgcs_cons (pgc_name (i := 10) sc_law_plan.nd rfl (Or.inl rfl)) (pgcs_cons (pgc_name (i := 11) sc_law_plan.nd rfl (Or.inl rfl)) pgcs_nil))) (fun _ _ _ _ _ => pqs_one (pq_cmp (op_neU hr.units) odNeU (pd_var 10) (pd_var 3) (nomark _))) (fun _ _ _ _ _ => pd_var 10))))))
      (pdss_one (pds_append (ps_expr (pe_bm PySem.F.plainAttrs_list PySem.F.slot_list_append PySem.F.type_list_append mt_append (pv 6) (pa_cons (pd_tup (pda_cons (pd_var 7) (pda_cons (pd_var 8) (pda_cons (pd_var 9) pda_nil)))) pa_nil)) (by rfl))))))))
      (pdss_let 6 (pdss_one (pds_ret (pd_tup (pda_cons (pd_bt (pe_callTy call_tuple_of (by rfl) T.z_tuple (by decide +kernel) (pda_cons (pd_var 1) pda_nil)) cdTuple) (pda_cons (pd_bt (pe_callTy call_tuple_of (by rfl) T.z_tuple (by decide +kernel) (pda_cons (pd_of_pl (pl_bt (pe_callB (cr_sortedD hr.units) (by rfl) T.z_sorted (by decide +kernel) (pda_cons (pd_var 6) pda_nil)) cdSorted)) pda_nil)) cdTuple) (pda_cons (pd_var 2) (pda_cons (pd_var 3) pda_nil)))))))))))), fun _ _ _ _ hF => hF⟩
@[irreducible] def F_law_plan (T : Tx K mg) : Fd := Fr_law_plan T
theorem ok_law_plan (T : Tx K mg) : FnOk P w K mg base (L2.CX P w) 4 T.law_plan T.law_plan_fd ["box"] (spP K 1 (F_law_plan T)) := by
  unfold F_law_plan
  exact okr_law_plan T
def Fr_law_strange (T : Tx K mg) : Fd := fun as Pr Re => (wSeq (wSetS 1 (wSv (wLV (wComp [2] (wWalk (wVar 0)) (sName 2) wYes (wOp φIxU (wVar 2) (wC (.int 0)))))))
      (wRet (wLV (wComp [3] (wWalk (wC (.str "abcdefghijklmnopqrstuvwxyz"))) (sName 3) (wOpB (φInU true) (wVar 3) (wVar 1)) (wVar 3))))) (startE 4 as) (fin Pr Re)
theorem okr_law_strange (T : Tx K mg) : FnOk P w K mg base (L2.CX P w) 1 T.law_strange T.law_strange_fd ["steps"] (spP K 1 (Fr_law_strange T)) :=
  okP T.law_strange_F sc_law_strange rfl fun cdv A outer s H E B hr => ⟨_, pdss_cons (pds_setS (i := 1) sc_law_strange.nd rfl (Or.inr rfl) (psl_v (pd_of_pl (pl_lc (own := [("triple", 2)]) rfl sc_law_strange.nd (pdi_walk (pd_var 0)) (blkOk_by (own := [("triple", 2)]) (N := ["steps", "names", "triple", "one"]) (sc := defScope s_law_strange) (by decide +kernel)) (fun _ _ _ _ _ => pgc_name (i := 2) sc_law_strange.nd rfl (Or.inl rfl)) (fun _ _ _ _ _ => pqs_nil) (fun _ _ _ _ _ => pd_ix ix_U odIxU (pd_var 2) pd_int (fun _ _ => rfl))))))
      (pdss_one (pds_ret (pd_of_pl (pl_lc (own := [("one", 3)]) rfl sc_law_strange.nd (pdi_walk pd_str) (blkOk_by (own := [("one", 3)]) (N := ["steps", "names", "triple", "one"]) (sc := defScope s_law_strange) (by decide +kernel)) (fun _ _ _ _ _ => pgc_name (i := 3) sc_law_strange.nd rfl (Or.inl rfl)) (fun _ _ _ _ _ => pqs_one (pq_cmp (op_notInU hr.units65) odNotInU (pd_var 3) (pd_var 1) rfl)) (fun _ _ _ _ _ => pd_var 3))))), fun _ _ _ _ hF => hF⟩
@[irreducible] def F_law_strange (T : Tx K mg) : Fd := Fr_law_strange T
theorem ok_law_strange (T : Tx K mg) : FnOk P w K mg base (L2.CX P w) 1 T.law_strange T.law_strange_fd ["steps"] (spP K 1 (F_law_strange T)) := by
  unfold F_law_strange
  exact okr_law_strange T
def Fr_law_times (T : Tx K mg) : Fd := fun as Pr Re => (wRet (wCall 2 (F_law_pick T) (wCons (wVar 0) (wCons (wLV (wLst (wCons (wC (.int 1)) (wCons (wC (.int 2)) (wCons (wOp φAdd (wC (.int 1)) (wCall 2 (F_law_take T) (wCons (wVar 0) (wCons (wC (.int 9)) wNil)))) (wCons (wOp φAdd (wC (.int 1)) (wCall 2 (F_law_take T) (wCons (wVar 0) (wCons (wOp φPow (wC (.int 10)) (wC (.int 12))) wNil)))) (wCons (wOp φPow (wC (.int 10)) (wC (.int 12))) wNil))))))) wNil)))) (startE 1 as) (fin Pr Re)
theorem okr_law_times (T : Tx K mg) : FnOk P w K mg base (L2.CX P w) 3 T.law_times T.law_times_fd ["box"] (spP K 1 (Fr_law_times T)) :=
  okP T.law_times_F sc_law_times rfl fun cdv A outer s H E B hr => ⟨_, pdss_one (pds_ret (pd_call (ok_law_pick T) (hr.mono (by omega)) (by rfl) T.law_pick_m T.law_pick_F.kp T.law_pick_b (takes_of rfl rfl rfl rfl) (pda_cons (pd_var 0) (pda_cons (pd_of_pl (pl_lst (pda_cons pd_int (pda_cons pd_int (pda_cons (pd_op op_addU odAddU pd_int (pd_call (ok_law_take T) (hr.mono (by omega)) (by rfl) T.law_take_m T.law_take_F.kp T.law_take_b (takes_of rfl rfl rfl rfl) (pda_cons (pd_var 0) (pda_cons pd_int pda_nil)))) (pda_cons (pd_op op_addU odAddU pd_int (pd_call (ok_law_take T) (hr.mono (by omega)) (by rfl) T.law_take_m T.law_take_F.kp T.law_take_b (takes_of rfl rfl rfl rfl) (pda_cons (pd_var 0) (pda_cons (pd_op op_pow odPowU pd_int pd_int) pda_nil)))) (pda_cons (pd_op op_pow odPowU pd_int pd_int) pda_nil))))))) pda_nil)))), fun _ _ _ _ hF => hF⟩
@[irreducible] def F_law_times (T : Tx K mg) : Fd := Fr_law_times T
theorem ok_law_times (T : Tx K mg) : FnOk P w K mg base (L2.CX P w) 3 T.law_times T.law_times_fd ["box"] (spP K 1 (F_law_times T)) := by
  unfold F_law_times
  exact okr_law_times T
def Fr_law_run (T : Tx K mg) : Fd := fun as Pr Re => (wSeq (wSetS 2 (wSl_ (wLst wNil)))
      (wSeq (wFor (wRng1 (wCons (wOp φIxU (wLV (wLst (wCons (wC (.int 0)) (wCons (wCall 2 (F_law_pick T) (wCons (wVar 0) (wCons (wLV (wLst (wCons (wC (.int 0)) (wCons (wC (.int 1)) (wCons (wC (.int 2)) (wCons (wC (.int 5)) (wCons (wC (.int 9)) (wCons (wC (.int 13)) (wCons (wC (.int 30)) (wCons (wC (.int 200)) wNil)))))))))) wNil))) wNil)))) (wBt φInt (wCons (wOp (φEqU true) (wVar 1) (wLV (wLst wNil))) wNil))) wNil)) (sName 3) (wSeq (wSetS 4 (wSv (wCall 2 (F_law_pick T) (wCons (wVar 0) (wCons (wVar 1) wNil)))))
      (wSeq (wIfS (wLendQ 2 (wAnd (wOpB (φEqU true) (wVar 2) (wLV (wLst wNil))) (wOpB (φEqU false) (wCall 2 (F_law_take T) (wCons (wVar 0) (wCons (wC (.int 3)) wNil))) (wC (.int 0))))) (wSetS 4 (wSv (wLend 2 (wOp φIxU (wOp φIxU (wVar 2) (wUn φNeg (wC (.int 1)))) (wC (.int 0)))))) wNext)
      (wApp' 2 (wTup (wCons (wVar 4) (wCons (wCall 1 (F_law_times T) (wCons (wVar 0) wNil)) wNil)))))))
      (wLet 2 (wRet (wBt φTuple (wCons (wVar 2) wNil)))))) (startE 5 as) (fin Pr Re)
theorem okr_law_run (T : Tx K mg) : FnOk P w K mg base (L2.CX P w) 4 T.law_run T.law_run_fd ["box", "names"] (spP K 2 (Fr_law_run T)) :=
  okP T.law_run_F sc_law_run rfl fun cdv A outer s H E B hr => ⟨_, pdss_cons (pds_setS (i := 2) sc_law_run.nd rfl (Or.inl rfl) (psl_l (pl_lst pda_nil)))
      (pdss_cons (pds_for (passes_of rfl) rfl (pdi_range1 (by rfl) T.z_range (pda_cons (pd_ix ix_U odIxU (pd_of_pl (pl_lst (pda_cons pd_int (pda_cons (pd_call (ok_law_pick T) (hr.mono (by omega)) (by rfl) T.law_pick_m T.law_pick_F.kp T.law_pick_b (takes_of rfl rfl rfl rfl) (pda_cons (pd_var 0) (pda_cons (pd_of_pl (pl_lst (pda_cons pd_int (pda_cons pd_int (pda_cons pd_int (pda_cons pd_int (pda_cons pd_int (pda_cons pd_int (pda_cons pd_int (pda_cons pd_int pda_nil)))))))))) pda_nil))) pda_nil)))) (pd_bt (pe_callTy call_int1 (by rfl) T.z_int (by decide +kernel) (pda_cons (pd_cmp (op_neU hr.units) odNeU (pd_var 1) (pd_of_pl (pl_lst pda_nil)) (nomark _)) pda_nil)) cdInt) (fun _ _ => rfl)) pda_nil)) (pgd_name (i := 3) sc_law_run.nd rfl (Or.inl rfl)) (pdss_cons (pds_setS (i := 4) sc_law_run.nd rfl (Or.inl rfl) (psl_v (pd_call (ok_law_pick T) (hr.mono (by omega)) (by rfl) T.law_pick_m T.law_pick_F.kp T.law_pick_b (takes_of rfl rfl rfl rfl) (pda_cons (pd_var 0) (pda_cons (pd_var 1) pda_nil)))))
      (pdss_cons (pds_if (pq_lend 2 (pqw_pt (pqw_and (pq_cmp (op_neU hr.units) odNeU (pd_var 2) (pd_of_pl (pl_lst pda_nil)) (nomark _)) (pqw_and1 (pq_cmp (op_eqU hr.units) odEqU (pd_call (ok_law_take T) (hr.mono (by omega)) (by rfl) T.law_take_m T.law_take_F.kp T.law_take_b (takes_of rfl rfl rfl rfl) (pda_cons (pd_var 0) (pda_cons pd_int pda_nil))) pd_int (nomark _)))))) (pdss_one (pds_setS (i := 4) sc_law_run.nd rfl (Or.inl rfl) (psl_v (pd_lend 2 (pd_ix ix_U odIxU (pd_ix ix_U odIxU (pd_var 2) (pd_un un_neg udNeg pd_int) (fun _ _ => rfl)) pd_int (fun _ _ => rfl)))))) pdss_nil)
      (pdss_one (pds_append (ps_expr (pe_bm PySem.F.plainAttrs_list PySem.F.slot_list_append PySem.F.type_list_append mt_append (pv 2) (pa_cons (pd_tup (pda_cons (pd_var 4) (pda_cons (pd_call (ok_law_times T) (hr.mono (by omega)) (by rfl) T.law_times_m T.law_times_F.kp T.law_times_b (takes_of rfl rfl rfl rfl) (pda_cons (pd_var 0) pda_nil)) pda_nil))) pa_nil)) (by rfl)))))))
      (pdss_let 2 (pdss_one (pds_ret (pd_bt (pe_callTy call_tuple_of (by rfl) T.z_tuple (by decide +kernel) (pda_cons (pd_var 2) pda_nil)) cdTuple))))), fun _ _ _ _ hF => hF⟩
@[irreducible] def F_law_run (T : Tx K mg) : Fd := Fr_law_run T
theorem ok_law_run (T : Tx K mg) : FnOk P w K mg base (L2.CX P w) 4 T.law_run T.law_run_fd ["box", "names"] (spP K 2 (F_law_run T)) := by
  unfold F_law_run
  exact okr_law_run T
def Fr_law_none (T : Tx K mg) : Fd := fun as Pr Re => (wRet (wCall 2 (F_law_pick T) (wCons (wVar 0) (wCons (wLV (wLst (wCons (wLV (wLst (wCons (wVar 2) (wCons (wVar 4) wNil)))) (wCons (wTup (wCons (wVar 2) (wCons (wVar 4) (wCons (wC (.int 1)) wNil)))) (wCons (wTup (wCons (wVar 2) wNil)) (wCons (wTup wNil) (wCons (wTup (wCons (wVar 2) (wCons (wC (.int 0)) wNil))) (wCons (wTup (wCons (wVar 2) (wCons (wUn φNeg (wVar 4)) wNil))) (wCons (wTup (wCons (wVar 2) (wCons (wC (.bl true)) wNil))) (wCons (wTup (wCons (wVar 2) (wCons (wC .non) wNil))) (wCons (wTup (wCons (wVar 2) (wCons (wC (.str "1")) wNil))) (wCons (wTup (wCons (wVar 3) (wCons (wVar 4) wNil))) (wCons (wTup (wCons (wOp φAdd (wVar 2) (wOp φMul (wC (.int 8)) (wVar 3))) (wCons (wVar 4) wNil))) (wCons (wTup (wCons (wC (.str "")) (wCons (wVar 4) wNil))) (wCons (wTup (wCons (wC .non) (wCons (wVar 4) wNil))) (wCons (wTup (wCons (wLV (wLst (wCons (wVar 2) wNil))) (wCons (wVar 4) wNil))) (wCons (wTup (wCons (wVar 2) (wCons (wTup (wCons (wVar 4) wNil)) wNil))) (wCons (wC .non) (wCons (wVar 4) (wCons (wTup (wCons (wTup (wCons (wVar 2) (wCons (wVar 4) wNil))) wNil)) (wCons (wVar 1) (wCons (wVar 2) (wCons (wTup (wCons (wVar 4) (wCons (wVar 2) wNil))) (wCons (wTup (wCons (wC (.int 0)) (wCons (wVar 4) wNil))) (wCons (wTup (wCons (wVar 2) (wCons (wLV (wLst (wCons (wVar 4) wNil))) wNil))) wNil))))))))))))))))))))))))) wNil)))) (startE 5 as) (fin Pr Re)
theorem okr_law_none (T : Tx K mg) : FnOk P w K mg base (L2.CX P w) 3 T.law_none T.law_none_fd ["box", "plan", "step", "strange", "times"] (spP K 5 (Fr_law_none T)) :=
  okP T.law_none_F sc_law_none rfl fun cdv A outer s H E B hr => ⟨_, pdss_one (pds_ret (pd_call (ok_law_pick T) (hr.mono (by omega)) (by rfl) T.law_pick_m T.law_pick_F.kp T.law_pick_b (takes_of rfl rfl rfl rfl) (pda_cons (pd_var 0) (pda_cons (pd_of_pl (pl_lst (pda_cons (pd_of_pl (pl_lst (pda_cons (pd_var 2) (pda_cons (pd_var 4) pda_nil)))) (pda_cons (pd_tup (pda_cons (pd_var 2) (pda_cons (pd_var 4) (pda_cons pd_int pda_nil)))) (pda_cons (pd_tup (pda_cons (pd_var 2) pda_nil)) (pda_cons (pd_tup pda_nil) (pda_cons (pd_tup (pda_cons (pd_var 2) (pda_cons pd_int pda_nil))) (pda_cons (pd_tup (pda_cons (pd_var 2) (pda_cons (pd_un un_neg udNeg (pd_var 4)) pda_nil))) (pda_cons (pd_tup (pda_cons (pd_var 2) (pda_cons pd_bl pda_nil))) (pda_cons (pd_tup (pda_cons (pd_var 2) (pda_cons pd_non pda_nil))) (pda_cons (pd_tup (pda_cons (pd_var 2) (pda_cons pd_str pda_nil))) (pda_cons (pd_tup (pda_cons (pd_var 3) (pda_cons (pd_var 4) pda_nil))) (pda_cons (pd_tup (pda_cons (pd_op op_addU odAddU (pd_var 2) (pd_op op_mulU odMulU pd_int (pd_var 3))) (pda_cons (pd_var 4) pda_nil))) (pda_cons (pd_tup (pda_cons pd_str (pda_cons (pd_var 4) pda_nil))) (pda_cons (pd_tup (pda_cons pd_non (pda_cons (pd_var 4) pda_nil))) (pda_cons (pd_tup (pda_cons (pd_of_pl (pl_lst (pda_cons (pd_var 2) pda_nil))) (pda_cons (pd_var 4) pda_nil))) (pda_cons (pd_tup (pda_cons (pd_var 2) (pda_cons (pd_tup (pda_cons (pd_var 4) pda_nil)) pda_nil))) (pda_cons pd_non (pda_cons (pd_var 4) (pda_cons (pd_tup (pda_cons (pd_tup (pda_cons (pd_var 2) (pda_cons (pd_var 4) pda_nil))) pda_nil)) (pda_cons (pd_var 1) (pda_cons (pd_var 2) (pda_cons (pd_tup (pda_cons (pd_var 4) (pda_cons (pd_var 2) pda_nil))) (pda_cons (pd_tup (pda_cons pd_int (pda_cons (pd_var 4) pda_nil))) (pda_cons (pd_tup (pda_cons (pd_var 2) (pda_cons (pd_of_pl (pl_lst (pda_cons (pd_var 4) pda_nil))) pda_nil))) pda_nil))))))))))))))))))))))))) pda_nil)))), fun _ _ _ _ hF => hF⟩
@[irreducible] def F_law_none (T : Tx K mg) : Fd := Fr_law_none T
theorem ok_law_none (T : Tx K mg) : FnOk P w K mg base (L2.CX P w) 3 T.law_none T.law_none_fd ["box", "plan", "step", "strange", "times"] (spP K 5 (F_law_none T)) := by
  unfold F_law_none
  exact okr_law_none T
end
end K09
set_option maxRecDepth 100000
set_option maxHeartbeats 4000000
namespace K09
open PySem PySem.Spec PyProof.Rows L2 Pre Pd
section
variable {P : Program} {w : World} {K : PySem.W.Frag} {mg : Str → Option Value} {base : Heap}
def Fr_law_said (T : Tx K mg) : Fd := fun as Pr Re => (wSeq (wTry T.InvalidRun 3 (wSetS 2 (wSv (wCall 2 (F_need_run T) (wCons (wVar 0) (wCons (wVar 1) wNil))))) (fun ea ns es => wRet (wTup (wCons (wC (.str "refused")) (wCons (fun env P R => wXf 3 ea "at" ns es env P R) wNil)))))
      (wRet (wTup (wCons (wC (.str "let")) (wCons (wVar 2) wNil))))) (startE 4 as) (fin Pr Re)
theorem okr_law_said (T : Tx K mg) : FnOk P w K mg base (L2.CX P w) 5 T.law_said T.law_said_fd ["plan", "value"] (spP K 2 (Fr_law_said T)) :=
  okP T.law_said_F sc_law_said rfl fun cdv A outer s H E B hr => ⟨_, pdss_cons (pds_try (i := 3) (exm_self T.tab (by simp : T.InvalidRun ∈ _)) rfl rfl (takes_of rfl rfl rfl rfl) sc_law_said.nd rfl rfl ⟨rfl, by decide, .inl T.InvalidRun_m⟩ (fun W' pn xe tk ho => pdss_one (pds_setS (i := 2) sc_law_said.nd rfl (Or.inl rfl) (psl_v (pd_call (ok_need_run T) (hr.mono (by omega)) (by rfl) T.need_run_m T.need_run_F.kp T.need_run_b tk (pda_cons (pd_var 0) (pda_cons (pd_var 1) pda_nil)))))) (fun ea oe cls d pn hz hf => pdss_suite fun B2 ns es hx => pdss_one (pds_ret (pd_tup (pda_cons pd_str (pda_cons (pd_xf hx T.InvalidRun_E.x (T.InvalidRun_E.no _ (by simp)) hz hf (pv 3)) pda_nil))))))
      (pdss_one (pds_ret (pd_tup (pda_cons pd_str (pda_cons (pd_var 2) pda_nil))))), fun _ _ _ _ hF => hF⟩
@[irreducible] def F_law_said (T : Tx K mg) : Fd := Fr_law_said T
theorem ok_law_said (T : Tx K mg) : FnOk P w K mg base (L2.CX P w) 5 T.law_said T.law_said_fd ["plan", "value"] (spP K 2 (F_law_said T)) := by
  unfold F_law_said
  exact okr_law_said T
def Fr_law_needs_hold (T : Tx K mg) : Fd := fun as Pr Re => (wSeq (wIfS (wNot (wTru (wCall 2 (F_law_same T) (wCons (wCall 2 (F_law_said T) (wCons (wVar 1) (wCons (wVar 2) wNil))) (wCons (wTup (wCons (wC (.str "let")) (wCons (wC .non) wNil))) wNil))))) (wRet (wC (.bl false))) wNext)
      (wSeq (wSetS 4 (wSv (wCall 2 (F_law_pick T) (wCons (wVar 0) (wCons (wLV (wLst (wCons (wLV (wBl φList (wCons (wVar 2) wNil))) (wCons (wC .non) (wCons (wC (.int 0)) (wCons (wC (.bl true)) (wCons (wC (.str "")) (wCons (wVar 3) (wCons (wVar 1) (wCons (wLV (wBl φList (wCons (wSl φSlU (wVar 2) wNoP (wPart (wC (.int 1)))) wNil))) (wCons (wLV (wLst wNil)) wNil))))))))))) wNil)))))
      (wSeq (wIfS (wNot (wTru (wCall 2 (F_law_same T) (wCons (wCall 2 (F_law_said T) (wCons (wVar 1) (wCons (wVar 4) wNil))) (wCons (wTup (wCons (wC (.str "refused")) (wCons (wUn φNeg (wC (.int 1))) wNil))) wNil))))) (wRet (wC (.bl false))) wNext)
      (wSeq (wSetS 5 (wSv (wLV (wBl φList (wCons (wVar 2) wNil)))))
      (wSeq (wSetS 6 (wSv (wCall 2 (F_law_take T) (wCons (wVar 0) (wCons (wOp φAdd (wBt φLen (wCons (wVar 5) wNil)) (wC (.int 1))) wNil)))))
      (wSeq (wAsg (wOp φIxU (wOp φAdd (wVar 2) (wTup (wCons (wTup (wCons (wVar 3) (wCons (wC (.int 1)) wNil))) wNil))) (wBt φMax2 (wCons (wOp φSub (wVar 6) (wC (.int 1))) (wCons (wC (.int 0)) wNil)))) (sTup 2 (sCons (sName 7) (sCons (sName 8) sNil))))
      (wSeq (wSetS 9 (wSv (wBt φTuple (wCons (wOp φAdd (wOp φAdd (wSl φSlU (wVar 5) wNoP (wPart (wVar 6))) (wLV (wLst (wCons (wCall 5 (F_law_none T) (wCons (wVar 0) (wCons (wVar 1) (wCons (wVar 7) (wCons (wVar 3) (wCons (wVar 8) wNil)))))) wNil)))) (wSl φSlU (wVar 5) (wPart (wVar 6)) wNoP)) wNil))))
      (wSeq (wIfS (wNot (wTru (wCall 2 (F_law_same T) (wCons (wCall 2 (F_law_said T) (wCons (wVar 1) (wCons (wVar 9) wNil))) (wCons (wTup (wCons (wC (.str "refused")) (wCons (wVar 6) wNil))) wNil))))) (wRet (wC (.bl false))) wNext)
      (wSeq (wSetS 10 (wSv (wOp φAdd (wOp φAdd (wVar 6) (wC (.int 1))) (wCall 2 (F_law_take T) (wCons (wVar 0) (wCons (wOp φAdd (wOp φSub (wBt φLen (wCons (wVar 5) wNil)) (wVar 6)) (wC (.int 1))) wNil))))))
      (wSeq (wSetS 11 (wSv (wOp φAdd (wOp φAdd (wSl φSlU (wVar 9) wNoP (wPart (wVar 10))) (wTup (wCons (wCall 5 (F_law_none T) (wCons (wVar 0) (wCons (wVar 1) (wCons (wVar 7) (wCons (wVar 3) (wCons (wVar 8) wNil)))))) wNil))) (wSl φSlU (wVar 9) (wPart (wVar 10)) wNoP))))
      (wRet (wAndV (wCall 2 (F_law_same T) (wCons (wCall 2 (F_law_said T) (wCons (wVar 1) (wCons (wVar 11) wNil))) (wCons (wTup (wCons (wC (.str "refused")) (wCons (wVar 6) wNil))) wNil))) (wOp (φIsN false) (wCallK 2 2 [1, 0] (F_need_run T) (wCons (wVar 2) (wCons (wVar 1) wNil))) (wC .non)))))))))))))) (startE 12 as) (fin Pr Re)
theorem okr_law_needs_hold (T : Tx K mg) : FnOk P w K mg base (L2.CX P w) 7 T.law_needs_hold T.law_needs_hold_fd ["box", "plan", "run", "strange"] (spP K 4 (Fr_law_needs_hold T)) :=
  okP T.law_needs_hold_F sc_law_needs_hold rfl fun cdv A outer s H E B hr => ⟨_, pdss_cons (pds_if (pq_not (pq_tru (pd_call (ok_law_same T) (hr.mono (by omega)) (by rfl) T.law_same_m T.law_same_F.kp T.law_same_b (takes_of rfl rfl rfl rfl) (pda_cons (pd_call (ok_law_said T) (hr.mono (by omega)) (by rfl) T.law_said_m T.law_said_F.kp T.law_said_b (takes_of rfl rfl rfl rfl) (pda_cons (pd_var 1) (pda_cons (pd_var 2) pda_nil))) (pda_cons (pd_tup (pda_cons pd_str (pda_cons pd_non pda_nil))) pda_nil))))) (pdss_one (pds_ret pd_bl)) pdss_nil)
      (pdss_cons (pds_setS (i := 4) sc_law_needs_hold.nd rfl (Or.inl rfl) (psl_v (pd_call (ok_law_pick T) (hr.mono (by omega)) (by rfl) T.law_pick_m T.law_pick_F.kp T.law_pick_b (takes_of rfl rfl rfl rfl) (pda_cons (pd_var 0) (pda_cons (pd_of_pl (pl_lst (pda_cons (pd_of_pl (pl_bt (pe_callTy call_list_of (by rfl) T.z_list (by decide +kernel) (pda_cons (pd_var 2) pda_nil)) cdList)) (pda_cons pd_non (pda_cons pd_int (pda_cons pd_bl (pda_cons pd_str (pda_cons (pd_var 3) (pda_cons (pd_var 1) (pda_cons (pd_of_pl (pl_bt (pe_callTy call_list_of (by rfl) T.z_list (by decide +kernel) (pda_cons (pd_sl sl_U sdU (pd_var 2) pdo_none (pdo_some pd_int)) pda_nil)) cdList)) (pda_cons (pd_of_pl (pl_lst pda_nil)) pda_nil))))))))))) pda_nil)))))
      (pdss_cons (pds_if (pq_not (pq_tru (pd_call (ok_law_same T) (hr.mono (by omega)) (by rfl) T.law_same_m T.law_same_F.kp T.law_same_b (takes_of rfl rfl rfl rfl) (pda_cons (pd_call (ok_law_said T) (hr.mono (by omega)) (by rfl) T.law_said_m T.law_said_F.kp T.law_said_b (takes_of rfl rfl rfl rfl) (pda_cons (pd_var 1) (pda_cons (pd_var 4) pda_nil))) (pda_cons (pd_tup (pda_cons pd_str (pda_cons (pd_un un_neg udNeg pd_int) pda_nil))) pda_nil))))) (pdss_one (pds_ret pd_bl)) pdss_nil)
      (pdss_cons (pds_setS (i := 5) sc_law_needs_hold.nd rfl (Or.inl rfl) (psl_v (pd_of_pl (pl_bt (pe_callTy call_list_of (by rfl) T.z_list (by decide +kernel) (pda_cons (pd_var 2) pda_nil)) cdList))))
      (pdss_cons (pds_setS (i := 6) sc_law_needs_hold.nd rfl (Or.inl rfl) (psl_v (pd_call (ok_law_take T) (hr.mono (by omega)) (by rfl) T.law_take_m T.law_take_F.kp T.law_take_b (takes_of rfl rfl rfl rfl) (pda_cons (pd_var 0) (pda_cons (pd_op op_addU odAddU (pd_bt (pe_callB call_len (by rfl) T.z_len (by decide +kernel) (pda_cons (pd_var 5) pda_nil)) cdLen) pd_int) pda_nil)))))
      (pdss_cons (pds_asg (pd_ix ix_U odIxU (pd_op op_addU odAddU (pd_var 2) (pd_tup (pda_cons (pd_tup (pda_cons (pd_var 3) (pda_cons pd_int pda_nil))) pda_nil))) (pd_bt (pe_callB (call_max2 rfl) (by rfl) T.z_max (by decide +kernel) (pda_cons (pd_op op_sub odSubU (pd_var 6) pd_int) (pda_cons pd_int pda_nil))) cdMax2) (fun _ _ => rfl)) (pgd_tup rfl (pgds_cons (pgd_name (i := 7) sc_law_needs_hold.nd rfl (Or.inl rfl)) (pgds_cons (pgd_name (i := 8) sc_law_needs_hold.nd rfl (Or.inl rfl)) pgds_nil))))
      (pdss_cons (pds_setS (i := 9) sc_law_needs_hold.nd rfl (Or.inl rfl) (psl_v (pd_bt (pe_callTy call_tuple_of (by rfl) T.z_tuple (by decide +kernel) (pda_cons (pd_op op_addU odAddU (pd_op op_addU odAddU (pd_sl sl_U sdU (pd_var 5) pdo_none (pdo_some (pd_var 6))) (pd_of_pl (pl_lst (pda_cons (pd_call (ok_law_none T) (hr.mono (by omega)) (by rfl) T.law_none_m T.law_none_F.kp T.law_none_b (takes_of rfl rfl rfl rfl) (pda_cons (pd_var 0) (pda_cons (pd_var 1) (pda_cons (pd_var 7) (pda_cons (pd_var 3) (pda_cons (pd_var 8) pda_nil)))))) pda_nil)))) (pd_sl sl_U sdU (pd_var 5) (pdo_some (pd_var 6)) pdo_none)) pda_nil)) cdTuple)))
      (pdss_cons (pds_if (pq_not (pq_tru (pd_call (ok_law_same T) (hr.mono (by omega)) (by rfl) T.law_same_m T.law_same_F.kp T.law_same_b (takes_of rfl rfl rfl rfl) (pda_cons (pd_call (ok_law_said T) (hr.mono (by omega)) (by rfl) T.law_said_m T.law_said_F.kp T.law_said_b (takes_of rfl rfl rfl rfl) (pda_cons (pd_var 1) (pda_cons (pd_var 9) pda_nil))) (pda_cons (pd_tup (pda_cons pd_str (pda_cons (pd_var 6) pda_nil))) pda_nil))))) (pdss_one (pds_ret pd_bl)) pdss_nil)
      (pdss_cons (pds_setS (i := 10) sc_law_needs_hold.nd rfl (Or.inl rfl) (psl_v (pd_op op_addU odAddU (pd_op op_addU odAddU (pd_var 6) pd_int) (pd_call (ok_law_take T) (hr.mono (by omega)) (by rfl) T.law_take_m T.law_take_F.kp T.law_take_b (takes_of rfl rfl rfl rfl) (pda_cons (pd_var 0) (pda_cons (pd_op op_addU odAddU (pd_op op_sub odSubU (pd_bt (pe_callB call_len (by rfl) T.z_len (by decide +kernel) (pda_cons (pd_var 5) pda_nil)) cdLen) (pd_var 6)) pd_int) pda_nil))))))
      (pdss_cons (pds_setS (i := 11) sc_law_needs_hold.nd rfl (Or.inl rfl) (psl_v (pd_op op_addU odAddU (pd_op op_addU odAddU (pd_sl sl_U sdU (pd_var 9) pdo_none (pdo_some (pd_var 10))) (pd_tup (pda_cons (pd_call (ok_law_none T) (hr.mono (by omega)) (by rfl) T.law_none_m T.law_none_F.kp T.law_none_b (takes_of rfl rfl rfl rfl) (pda_cons (pd_var 0) (pda_cons (pd_var 1) (pda_cons (pd_var 7) (pda_cons (pd_var 3) (pda_cons (pd_var 8) pda_nil)))))) pda_nil))) (pd_sl sl_U sdU (pd_var 9) (pdo_some (pd_var 10)) pdo_none))))
      (pdss_one (pds_ret (pd_and (pd_call (ok_law_same T) (hr.mono (by omega)) (by rfl) T.law_same_m T.law_same_F.kp T.law_same_b (takes_of rfl rfl rfl rfl) (pda_cons (pd_call (ok_law_said T) (hr.mono (by omega)) (by rfl) T.law_said_m T.law_said_F.kp T.law_said_b (takes_of rfl rfl rfl rfl) (pda_cons (pd_var 1) (pda_cons (pd_var 11) pda_nil))) (pda_cons (pd_tup (pda_cons pd_str (pda_cons (pd_var 6) pda_nil))) pda_nil))) (pd_one (pd_cmp op_isN odIsN (pd_callK (ks := ["value", "plan"]) (is := [1, 0]) (ok_need_run T) (hr.mono (by omega)) (by rfl) T.need_run_m T.need_run_F.kp (kb_need_run_value_plan T.need_run_F) (takes_of rfl rfl rfl rfl) (pdk_cons (pd_var 2) (pdk_cons (pd_var 1) pdk_nil))) pd_non (nomark _))))))))))))))), fun _ _ _ _ hF => hF⟩
@[irreducible] def F_law_needs_hold (T : Tx K mg) : Fd := Fr_law_needs_hold T
theorem ok_law_needs_hold (T : Tx K mg) : FnOk P w K mg base (L2.CX P w) 7 T.law_needs_hold T.law_needs_hold_fd ["box", "plan", "run", "strange"] (spP K 4 (F_law_needs_hold T)) := by
  unfold F_law_needs_hold
  exact okr_law_needs_hold T
def Fr_law_sum (T : Tx K mg) : Fd := fun as Pr Re => (wSeq (wSetS 1 (wSk wDNew))
      (wSeq (wFor (wWalk (wVar 0)) (sTup 2 (sCons (sName 2) (sCons (sName 3) sNil))) (fun env P => (∃ ks ds, env[1]? = some (.k ks ds)) ∧ wDPut 1 (wVar 2) (wOp φAdd (wDGet 1 (wVar 2) (wC (.int 0))) (wVar 3)) env P))
      (wLet 1 (wRet (wBt φTuple (wCons (wLV (wComp [2] (wWalk (wLV (wBl φSorted (wCons (wLV (wBl φListD (wCons (wVar 1) wNil))) wNil)))) (sName 2) wYes (wTup (wCons (wVar 2) (wCons (wDIx 1 (wVar 2)) wNil))))) wNil)))))) (startE 4 as) (fin Pr Re)
theorem okr_law_sum (T : Tx K mg) : FnOk P w K mg base (L2.CX P w) 1 T.law_sum T.law_sum_fd ["run"] (spP K 1 (Fr_law_sum T)) :=
  okP T.law_sum_F sc_law_sum rfl fun cdv A outer s H E B hr => ⟨_, pdss_cons (pds_setS (i := 1) sc_law_sum.nd rfl (Or.inr rfl) (psl_k pk_new))
      (pdss_cons (pds_for (passes_of rfl) rfl (pdi_walk (pd_var 0)) (pgd_tup rfl (pgds_cons (pgd_name (i := 2) sc_law_sum.nd rfl (Or.inl rfl)) (pgds_cons (pgd_name (i := 3) sc_law_sum.nd rfl (Or.inl rfl)) pgds_nil))) (pdss_one (pds_dput (ps_dput (hu_of hr) (pv 1) (pd_var 2) (pd_op op_addU odAddU (pd_dget2 (pe_dget2 (hu_of hr) (pv 1) (pd_var 2) pd_int ⟨by rfl, by rfl, by rfl, by rfl⟩)) (pd_var 3)) rfl))))
      (pdss_let 1 (pdss_one (pds_ret (pd_bt (pe_callTy call_tuple_of (by rfl) T.z_tuple (by decide +kernel) (pda_cons (pd_of_pl (pl_lc (own := [("step", 2)]) rfl sc_law_sum.nd (pdi_walk (pd_of_pl (pl_bt (pe_callB (cr_sortedD hr.units) (by rfl) T.z_sorted (by decide +kernel) (pda_cons (pd_of_pl (pl_bt (pe_callTy (call_listD rfl) (by rfl) T.z_list (by decide +kernel) (pda_cons (pd_var 1) pda_nil)) cdListD)) pda_nil)) cdSorted))) (blkOk_by (own := [("step", 2)]) (N := ["run", "found", "step", "times"]) (sc := defScope s_law_sum) (by decide +kernel)) (fun _ _ _ _ _ => pgc_name (i := 2) sc_law_sum.nd rfl (Or.inl rfl)) (fun _ _ _ _ _ => pqs_nil) (fun _ _ _ _ _ => pd_tup (pda_cons (pd_var 2) (pda_cons (pd_dix (pe_dget (hu_of hr) (pv 1) (pd_var 2) (fun _ _ => rfl))) pda_nil))))) pda_nil)) cdTuple))))), fun _ _ _ _ hF => hF⟩
@[irreducible] def F_law_sum (T : Tx K mg) : Fd := Fr_law_sum T
theorem ok_law_sum (T : Tx K mg) : FnOk P w K mg base (L2.CX P w) 1 T.law_sum T.law_sum_fd ["run"] (spP K 1 (F_law_sum T)) := by
  unfold F_law_sum
  exact okr_law_sum T
def Fr_law_folded (T : Tx K mg) : Fd := fun as Pr Re => (wSeq (wSetS 1 (wSv (wLV (wComp [4] (wWalk (wVar 0)) (sName 4) wYes (wOp φIxU (wVar 4) (wC (.int 0)))))))
      (wSeq (wSetL 2 (wComp [5] (wRng1 (wCons (wBt φLen (wCons (wVar 0) wNil)) wNil)) (sName 5) (wOr (wOpB (φEqU false) (wVar 5) (wC (.int 0))) (wOpB (φEqU true) (wOp φIxU (wVar 1) (wVar 5)) (wOp φIxU (wVar 1) (wOp φSub (wVar 5) (wC (.int 1)))))) (wVar 5)))
      (wLet 2 (wSeq (wSetS 3 (wSv (wOp φAdd (wSl φSlU (wVar 2) (wPart (wC (.int 1))) wNoP) (wLV (wLst (wCons (wBt φLen (wCons (wVar 0) wNil)) wNil))))))
      (wRet (wBt φTuple (wCons (wLV (wComp [6, 7] (wZip (wCons (wVar 2) (wCons (wVar 3) wNil))) (sTup 2 (sCons (sName 6) (sCons (sName 7) sNil))) wYes (wTup (wCons (wOp φIxU (wVar 1) (wVar 6)) (wCons (wBt φSum (wCons (wLV (wComp [4] (wWalk (wSl φSlU (wVar 0) (wPart (wVar 6)) (wPart (wVar 7)))) (sName 4) wYes (wOp φIxU (wVar 4) (wC (.int 1))))) wNil)) wNil))))) wNil))))))) (startE 8 as) (fin Pr Re)
theorem okr_law_folded (T : Tx K mg) : FnOk P w K mg base (L2.CX P w) 1 T.law_folded T.law_folded_fd ["run"] (spP K 1 (Fr_law_folded T)) :=
  okP T.law_folded_F sc_law_folded rfl fun cdv A outer s H E B hr => ⟨_, pdss_cons (pds_setS (i := 1) sc_law_folded.nd rfl (Or.inr rfl) (psl_v (pd_of_pl (pl_lc (own := [("row", 4)]) rfl sc_law_folded.nd (pdi_walk (pd_var 0)) (blkOk_by (own := [("row", 4)]) (N := ["run", "steps", "heads", "ends", "row", "at", "head", "end"]) (sc := defScope s_law_folded) (by decide +kernel)) (fun _ _ _ _ _ => pgc_name (i := 4) sc_law_folded.nd rfl (Or.inl rfl)) (fun _ _ _ _ _ => pqs_nil) (fun _ _ _ _ _ => pd_ix ix_U odIxU (pd_var 4) pd_int (fun _ _ => rfl))))))
      (pdss_cons (pds_setLc (own := [("at", 5)]) (i := 2) rfl sc_law_folded.nd rfl rfl (sw_true rfl rfl rfl (by decide +kernel)) (pdi_range1 (by rfl) T.z_range (pda_cons (pd_bt (pe_callB call_len (by rfl) T.z_len (by decide +kernel) (pda_cons (pd_var 0) pda_nil)) cdLen) pda_nil)) (blkOk_by (own := [("at", 5)]) (N := ["run", "steps", "heads", "ends", "row", "at", "head", "end"]) (sc := defScope s_law_folded) (by decide +kernel)) (fun _ _ _ _ _ => pgc_name (i := 5) sc_law_folded.nd rfl (Or.inl rfl)) (fun _ _ _ _ _ => pqs_one (pqw_pt (pqw_or (pq_cmp (op_eqU hr.units) odEqU (pd_var 5) pd_int (nomark _)) (pqw_or1 (pq_cmp (op_neU hr.units) odNeU (pd_ix ix_U odIxU (pd_var 1) (pd_var 5) (fun _ _ => rfl)) (pd_ix ix_U odIxU (pd_var 1) (pd_op op_sub odSubU (pd_var 5) pd_int) (fun _ _ => rfl)) (nomark _)))))) (fun _ _ _ _ _ => pd_var 5))
      (pdss_let 2 (pdss_cons (pds_setS (i := 3) sc_law_folded.nd rfl (Or.inl rfl) (psl_v (pd_op op_addU odAddU (pd_sl sl_U sdU (pd_var 2) (pdo_some pd_int) pdo_none) (pd_of_pl (pl_lst (pda_cons (pd_bt (pe_callB call_len (by rfl) T.z_len (by decide +kernel) (pda_cons (pd_var 0) pda_nil)) cdLen) pda_nil))))))
      (pdss_one (pds_ret (pd_bt (pe_callTy call_tuple_of (by rfl) T.z_tuple (by decide +kernel) (pda_cons (pd_of_pl (pl_lc (own := [("head", 6), ("end", 7)]) rfl sc_law_folded.nd (pdi_zip (by rfl) T.z_zip (pda_cons (pd_var 2) (pda_cons (pd_var 3) pda_nil))) (blkOk_by (own := [("head", 6), ("end", 7)]) (N := ["run", "steps", "heads", "ends", "row", "at", "head", "end"]) (sc := defScope s_law_folded) (by decide +kernel)) (fun _ _ _ _ _ => pgc_tup rfl (pgcs_cons (pgc_name (i := 6) sc_law_folded.nd rfl (Or.inl rfl)) (pgcs_cons (pgc_name (i := 7) sc_law_folded.nd rfl (Or.inl rfl)) pgcs_nil))) (fun _ _ _ _ _ => pqs_nil) (fun _ _ _ _ _ => pd_tup (pda_cons (pd_ix ix_U odIxU (pd_var 1) (pd_var 6) (fun _ _ => rfl)) (pda_cons (pd_bt (pe_callB (cr_sum rfl) (by rfl) T.z_sum (by decide +kernel) (pda_cons (pd_of_pl (pl_lc (own := [("row", 4)]) rfl sc_law_folded.nd (pdi_walk (pd_sl sl_U sdU (pd_var 0) (pdo_some (pd_var 6)) (pdo_some (pd_var 7)))) (blkOk_by (own := [("row", 4)]) (N := ["run", "steps", "heads", "ends", "row", "at", "head", "end"]) (sc := _) (by rfl)) (fun _ _ _ _ _ => pgc_name (i := 4) sc_law_folded.nd rfl (Or.inl rfl)) (fun _ _ _ _ _ => pqs_nil) (fun _ _ _ _ _ => pd_ix ix_U odIxU (pd_var 4) pd_int (fun _ _ => rfl)))) pda_nil)) cdSum) pda_nil))))) pda_nil)) cdTuple)))))), fun _ _ _ _ hF => hF⟩
@[irreducible] def F_law_folded (T : Tx K mg) : Fd := Fr_law_folded T
theorem ok_law_folded (T : Tx K mg) : FnOk P w K mg base (L2.CX P w) 1 T.law_folded T.law_folded_fd ["run"] (spP K 1 (F_law_folded T)) := by
  unfold F_law_folded
  exact okr_law_folded T
def Fr_law_change (T : Tx K mg) : Fd := fun as Pr Re => (wSeq (wPar2 2 3 (wSk wDNew) (wSv (wKV (wBk φDictP (wCons (wLV (wComp [8] (wWalk (wVar 0)) (sName 8) wYes (wTup (wCons (wOp φIxU (wVar 8) (wC (.int 0))) (wCons (wVar 8) wNil))))) wNil)))))
      (wSeq (wFor (wWalk (wVar 1)) (sTup 2 (sCons (sName 4) (sCons (sName 5) sNil))) (wSeq (wFor (wWalk (wOp φIxU (wDIx 3 (wVar 4)) (wC (.int 1)))) (sTup 2 (sCons (sName 6) (sCons (sName 7) sNil))) (fun env P => (∃ ks ds, env[2]? = some (.k ks ds)) ∧ wDPut 2 (wVar 6) (wOp φSub (wDGet 2 (wVar 6) (wC (.int 0))) (wOp φMul (wVar 5) (wVar 7))) env P))
      (wFor (wWalk (wOp φIxU (wDIx 3 (wVar 4)) (wC (.int 2)))) (sTup 2 (sCons (sName 6) (sCons (sName 7) sNil))) (fun env P => (∃ ks ds, env[2]? = some (.k ks ds)) ∧ wDPut 2 (wVar 6) (wOp φAdd (wDGet 2 (wVar 6) (wC (.int 0))) (wOp φMul (wVar 5) (wVar 7))) env P))))
      (wLet 2 (wRet (wBt φTuple (wCons (wLV (wComp [6] (wWalk (wLV (wBl φSorted (wCons (wLV (wBl φListD (wCons (wVar 2) wNil))) wNil)))) (sName 6) (wOpB (φEqU true) (wDIx 2 (wVar 6)) (wC (.int 0))) (wTup (wCons (wVar 6) (wCons (wDIx 2 (wVar 6)) wNil))))) wNil)))))) (startE 9 as) (fin Pr Re)
theorem okr_law_change (T : Tx K mg) : FnOk P w K mg base (L2.CX P w) 1 T.law_change T.law_change_fd ["steps", "pairs"] (spP K 2 (Fr_law_change T)) :=
  okP T.law_change_F sc_law_change rfl fun cdv A outer s H E B hr => ⟨_, pdss_cons (pds_parT2 (i := 2) (j := 3) rfl sc_law_change.nd rfl rfl (Or.inr rfl) (Or.inl rfl) (Or.inl rfl) (Or.inr rfl) (psl_k pk_new) (psl_v (pd_of_pk (pk_dictP (pe_callTy (call_dictP rfl) (by rfl) T.z_dict (by decide +kernel) (pda_cons (pd_of_pl (pl_lc (own := [("triple", 8)]) rfl sc_law_change.nd (pdi_walk (pd_var 0)) (blkOk_by (own := [("triple", 8)]) (N := ["steps", "pairs", "found", "known", "step", "times", "place", "many", "triple"]) (sc := defScope s_law_change) (by decide +kernel)) (fun _ _ _ _ _ => pgc_name (i := 8) sc_law_change.nd rfl (Or.inl rfl)) (fun _ _ _ _ _ => pqs_nil) (fun _ _ _ _ _ => pd_tup (pda_cons (pd_ix ix_U odIxU (pd_var 8) pd_int (fun _ _ => rfl)) (pda_cons (pd_var 8) pda_nil))))) pda_nil))))))
      (pdss_cons (pds_for (passes_of rfl) rfl (pdi_walk (pd_var 1)) (pgd_tup rfl (pgds_cons (pgd_name (i := 4) sc_law_change.nd rfl (Or.inl rfl)) (pgds_cons (pgd_name (i := 5) sc_law_change.nd rfl (Or.inl rfl)) pgds_nil))) (pdss_cons (pds_for (passes_of rfl) rfl (pdi_walk (pd_ix ix_U odIxU (pd_dix (pe_dget (hu_of hr) (pv 3) (pd_var 4) (fun _ _ => rfl))) pd_int (fun _ _ => rfl))) (pgd_tup rfl (pgds_cons (pgd_name (i := 6) sc_law_change.nd rfl (Or.inl rfl)) (pgds_cons (pgd_name (i := 7) sc_law_change.nd rfl (Or.inl rfl)) pgds_nil))) (pdss_one (pds_dput (ps_dput (hu_of hr) (pv 2) (pd_var 6) (pd_op op_sub odSubU (pd_dget2 (pe_dget2 (hu_of hr) (pv 2) (pd_var 6) pd_int ⟨by rfl, by rfl, by rfl, by rfl⟩)) (pd_op op_mulU odMulU (pd_var 5) (pd_var 7))) rfl))))
      (pdss_one (pds_for (passes_of rfl) rfl (pdi_walk (pd_ix ix_U odIxU (pd_dix (pe_dget (hu_of hr) (pv 3) (pd_var 4) (fun _ _ => rfl))) pd_int (fun _ _ => rfl))) (pgd_tup rfl (pgds_cons (pgd_name (i := 6) sc_law_change.nd rfl (Or.inl rfl)) (pgds_cons (pgd_name (i := 7) sc_law_change.nd rfl (Or.inl rfl)) pgds_nil))) (pdss_one (pds_dput (ps_dput (hu_of hr) (pv 2) (pd_var 6) (pd_op op_addU odAddU (pd_dget2 (pe_dget2 (hu_of hr) (pv 2) (pd_var 6) pd_int ⟨by rfl, by rfl, by rfl, by rfl⟩)) (pd_op op_mulU odMulU (pd_var 5) (pd_var 7))) rfl)))))))
      (pdss_let 2 (pdss_one (pds_ret (pd_bt (pe_callTy call_tuple_of (by rfl) T.z_tuple (by decide +kernel) (pda_cons (pd_of_pl (pl_lc (own := [("place", 6)]) rfl sc_law_change.nd (pdi_walk (pd_of_pl (pl_bt (pe_callB (cr_sortedD hr.units) (by rfl) T.z_sorted (by decide +kernel) (pda_cons (pd_of_pl (pl_bt (pe_callTy (call_listD rfl) (by rfl) T.z_list (by decide +kernel) (pda_cons (pd_var 2) pda_nil)) cdListD)) pda_nil)) cdSorted))) (blkOk_by (own := [("place", 6)]) (N := ["steps", "pairs", "found", "known", "step", "times", "place", "many", "triple"]) (sc := defScope s_law_change) (by decide +kernel)) (fun _ _ _ _ _ => pgc_name (i := 6) sc_law_change.nd rfl (Or.inl rfl)) (fun _ _ _ _ _ => pqs_one (pq_cmp (op_neU hr.units) odNeU (pd_dix (pe_dget (hu_of hr) (pv 2) (pd_var 6) (fun _ _ => rfl))) pd_int (nomark _))) (fun _ _ _ _ _ => pd_tup (pda_cons (pd_var 6) (pda_cons (pd_dix (pe_dget (hu_of hr) (pv 2) (pd_var 6) (fun _ _ => rfl))) pda_nil))))) pda_nil)) cdTuple))))), fun _ _ _ _ hF => hF⟩
@[irreducible] def F_law_change (T : Tx K mg) : Fd := Fr_law_change T
theorem ok_law_change (T : Tx K mg) : FnOk P w K mg base (L2.CX P w) 1 T.law_change T.law_change_fd ["steps", "pairs"] (spP K 2 (F_law_change T)) := by
  unfold F_law_change
  exact okr_law_change T
def Fr_law (T : Tx K mg) : Fd := fun as Pr Re => (wSeq (wSetS 1 (wSv (wCall 2 (F_law_box T) (wCons (wVar 0) (wCons (wC (.int 0)) wNil)))))
      (wSeq (wSetS 2 (wSv (wCall 1 (F_law_plan T) (wCons (wVar 1) wNil))))
      (wSeq (wPar2 3 4 (wSv (wMake T.Plan 4 (F_Plan_i T) (wCons (wOp φIxU (wVar 2) (wC (.int 0))) (wCons (wOp φIxU (wVar 2) (wC (.int 1))) (wCons (wOp φIxU (wVar 2) (wC (.int 2))) (wCons (wOp φIxU (wVar 2) (wC (.int 3))) wNil)))))) (wSv (wLV (wComp [9] (wWalk (wOp φIxU (wVar 2) (wC (.int 1)))) (sName 9) wYes (wOp φIxU (wVar 9) (wC (.int 0)))))))
      (wSeq (wSetS 1 (wSv (wCall 2 (F_law_box T) (wCons (wVar 0) (wCons (wC (.int 1)) wNil)))))
      (wSeq (wSetS 5 (wSv (wCall 2 (F_law_run T) (wCons (wVar 1) (wCons (wVar 4) wNil)))))
      (wSeq (wIfS (wNot (wTru (wCall 4 (F_law_needs_hold T) (wCons (wVar 1) (wCons (wVar 3) (wCons (wVar 5) (wCons (wCall 2 (F_law_pick T) (wCons (wVar 1) (wCons (wCall 1 (F_law_strange T) (wCons (wOp φIxU (wVar 2) (wC (.int 1))) wNil)) wNil))) wNil))))))) (wRet (wC (.bl false))) wNext)
      (wSeq (wSetS 6 (wSv (wCall 1 (F_law_sum T) (wCons (wVar 5) wNil))))
      (wSeq (wIfS (wOr (wNot (wTru (wCall 2 (F_law_same T) (wCons (wCall 1 (F_run_sum T) (wCons (wVar 5) wNil)) (wCons (wVar 6) wNil))))) (wOr (wNot (wTru (wCall 2 (F_law_same T) (wCons (wCallK 1 1 [0] (F_steps_in T) (wCons (wVar 5) wNil)) (wCons (wBt φSum (wCons (wLV (wComp [10] (wWalk (wVar 6)) (sName 10) wYes (wOp φIxU (wVar 10) (wC (.int 1))))) wNil)) wNil))))) (wOpB (φEqU true) (wCallK 1 1 [0] (F_run_sum T) (wCons (wVar 5) wNil)) (wVar 6)))) (wRet (wC (.bl false))) wNext)
      (wSeq (wSetS 6 (wSv (wCall 1 (F_law_folded T) (wCons (wVar 5) wNil))))
      (wSeq (wIfS (wOr (wNot (wTru (wCall 2 (F_law_same T) (wCons (wCall 1 (F_folded T) (wCons (wVar 5) wNil)) (wCons (wVar 6) wNil))))) (wNot (wTru (wCall 2 (F_law_same T) (wCons (wCallK 1 1 [0] (F_folded T) (wCons (wVar 6) wNil)) (wCons (wVar 6) wNil)))))) (wRet (wC (.bl false))) wNext)
      (wSeq (wSetS 1 (wSv (wCall 2 (F_law_box T) (wCons (wVar 0) (wCons (wC (.int 2)) wNil)))))
      (wSeq (wSetS 7 (wSl_ (wLst wNil)))
      (wSeq (wFor (wWalk (wSl φSlU (wCall 2 (F_law_mixed T) (wCons (wVar 1) (wCons (wVar 4) wNil))) wNoP (wPart (wCall 2 (F_law_take T) (wCons (wVar 1) (wCons (wOp φAdd (wBt φLen (wCons (wVar 4) wNil)) (wC (.int 1))) wNil)))))) (sName 8) (wApp' 7 (wTup (wCons (wVar 8) (wCons (wCall 2 (F_law_pick T) (wCons (wVar 1) (wCons (wLV (wLst (wCons (wC (.int 0)) (wCons (wC (.int 1)) (wCons (wUn φNeg (wC (.int 1))) (wCons (wCall 1 (F_law_times T) (wCons (wVar 1) wNil)) (wCons (wUn φNeg (wCall 1 (F_law_times T) (wCons (wVar 1) wNil))) (wCons (wOp φSub (wCall 2 (F_law_take T) (wCons (wVar 1) (wCons (wC (.int 9)) wNil))) (wC (.int 4))) wNil)))))))) wNil))) wNil)))))
      (wLet 7 (wRet (wCall 2 (F_law_same T) (wCons (wCallK 2 2 [1, 0] (F_sum_change T) (wCons (wBt φTuple (wCons (wVar 7) wNil)) (wCons (wVar 3) wNil))) (wCons (wCall 2 (F_law_change T) (wCons (wOp φIxU (wVar 2) (wC (.int 1))) (wCons (wVar 7) wNil))) wNil)))))))))))))))))) (startE 11 as) (fin Pr Re)
theorem okr_law (T : Tx K mg) : FnOk P w K mg base (L2.CX P w) 10 T.law T.law_fd ["script"] (spP K 1 (Fr_law T)) :=
  okP T.law_F sc_law rfl fun cdv A outer s H E B hr => ⟨_, pdss_cons (pds_setS (i := 1) sc_law.nd rfl (Or.inl rfl) (psl_v (pd_call (ok_law_box T) (hr.mono (by omega)) (by rfl) T.law_box_m T.law_box_F.kp T.law_box_b (takes_of rfl rfl rfl rfl) (pda_cons (pd_var 0) (pda_cons pd_int pda_nil)))))
      (pdss_cons (pds_setS (i := 2) sc_law.nd rfl (Or.inl rfl) (psl_v (pd_call (ok_law_plan T) (hr.mono (by omega)) (by rfl) T.law_plan_m T.law_plan_F.kp T.law_plan_b (takes_of rfl rfl rfl rfl) (pda_cons (pd_var 1) pda_nil))))
      (pdss_cons (pds_par2 (i := 3) (j := 4) (by rfl) sc_law.nd rfl rfl (by decide) rfl rfl (psl_v (pd_make T.Plan_M (ok_Plan_i T) (hr.mono (by omega)) (by rfl) T.Plan_m T.Plan_b (takes_of rfl rfl rfl rfl) (pda_cons (pd_ix ix_U odIxU (pd_var 2) pd_int (fun _ _ => rfl)) (pda_cons (pd_ix ix_U odIxU (pd_var 2) pd_int (fun _ _ => rfl)) (pda_cons (pd_ix ix_U odIxU (pd_var 2) pd_int (fun _ _ => rfl)) (pda_cons (pd_ix ix_U odIxU (pd_var 2) pd_int (fun _ _ => rfl)) pda_nil)))))) (psl_v (pd_of_pl (pl_lc (own := [("triple", 9)]) rfl sc_law.nd (pdi_walk (pd_ix ix_U odIxU (pd_var 2) pd_int (fun _ _ => rfl))) (blkOk_by (own := [("triple", 9)]) (N := ["script", "box", "told", "plan", "names", "run", "due", "pairs", "name", "triple", "pair"]) (sc := defScope s_law) (by decide +kernel)) (fun _ _ _ _ _ => pgc_name (i := 9) sc_law.nd rfl (Or.inl rfl)) (fun _ _ _ _ _ => pqs_nil) (fun _ _ _ _ _ => pd_ix ix_U odIxU (pd_var 9) pd_int (fun _ _ => rfl))))) (by rfl))
      (pdss_cons (pds_setS (i := 1) sc_law.nd rfl (Or.inl rfl) (psl_v (pd_call (ok_law_box T) (hr.mono (by omega)) (by rfl) T.law_box_m T.law_box_F.kp T.law_box_b (takes_of rfl rfl rfl rfl) (pda_cons (pd_var 0) (pda_cons pd_int pda_nil)))))
      (pdss_cons (pds_setS (i := 5) sc_law.nd rfl (Or.inl rfl) (psl_v (pd_call (ok_law_run T) (hr.mono (by omega)) (by rfl) T.law_run_m T.law_run_F.kp T.law_run_b (takes_of rfl rfl rfl rfl) (pda_cons (pd_var 1) (pda_cons (pd_var 4) pda_nil)))))
      (pdss_cons (pds_if (pq_not (pq_tru (pd_call (ok_law_needs_hold T) (hr.mono (by omega)) (by rfl) T.law_needs_hold_m T.law_needs_hold_F.kp T.law_needs_hold_b (takes_of rfl rfl rfl rfl) (pda_cons (pd_var 1) (pda_cons (pd_var 3) (pda_cons (pd_var 5) (pda_cons (pd_call (ok_law_pick T) (hr.mono (by omega)) (by rfl) T.law_pick_m T.law_pick_F.kp T.law_pick_b (takes_of rfl rfl rfl rfl) (pda_cons (pd_var 1) (pda_cons (pd_call (ok_law_strange T) (hr.mono (by omega)) (by rfl) T.law_strange_m T.law_strange_F.kp T.law_strange_b (takes_of rfl rfl rfl rfl) (pda_cons (pd_ix ix_U odIxU (pd_var 2) pd_int (fun _ _ => rfl)) pda_nil)) pda_nil))) pda_nil))))))) (pdss_one (pds_ret pd_bl)) pdss_nil)
      (pdss_cons (pds_setS (i := 6) sc_law.nd rfl (Or.inl rfl) (psl_v (pd_call (ok_law_sum T) (hr.mono (by omega)) (by rfl) T.law_sum_m T.law_sum_F.kp T.law_sum_b (takes_of rfl rfl rfl rfl) (pda_cons (pd_var 5) pda_nil))))
      (pdss_cons (pds_if (pqw_pt (pqw_or (pq_not (pq_tru (pd_call (ok_law_same T) (hr.mono (by omega)) (by rfl) T.law_same_m T.law_same_F.kp T.law_same_b (takes_of rfl rfl rfl rfl) (pda_cons (pd_call (ok_run_sum T) (hr.mono (by omega)) (by rfl) T.run_sum_m T.run_sum_F.kp T.run_sum_b (takes_of rfl rfl rfl rfl) (pda_cons (pd_var 5) pda_nil)) (pda_cons (pd_var 6) pda_nil))))) (pqw_or (pq_not (pq_tru (pd_call (ok_law_same T) (hr.mono (by omega)) (by rfl) T.law_same_m T.law_same_F.kp T.law_same_b (takes_of rfl rfl rfl rfl) (pda_cons (pd_callK (ks := ["run"]) (is := [0]) (ok_steps_in T) (hr.mono (by omega)) (by rfl) T.steps_in_m T.steps_in_F.kp (kb_steps_in_run T.steps_in_F) (takes_of rfl rfl rfl rfl) (pdk_cons (pd_var 5) pdk_nil)) (pda_cons (pd_bt (pe_callB (cr_sum rfl) (by rfl) T.z_sum (by decide +kernel) (pda_cons (pd_of_pl (pl_lc (own := [("pair", 10)]) rfl sc_law.nd (pdi_walk (pd_var 6)) (blkOk_by (own := [("pair", 10)]) (N := ["script", "box", "told", "plan", "names", "run", "due", "pairs", "name", "triple", "pair"]) (sc := defScope s_law) (by decide +kernel)) (fun _ _ _ _ _ => pgc_name (i := 10) sc_law.nd rfl (Or.inl rfl)) (fun _ _ _ _ _ => pqs_nil) (fun _ _ _ _ _ => pd_ix ix_U odIxU (pd_var 10) pd_int (fun _ _ => rfl)))) pda_nil)) cdSum) pda_nil))))) (pqw_or1 (pq_cmp (op_neU hr.units) odNeU (pd_callK (ks := ["run"]) (is := [0]) (ok_run_sum T) (hr.mono (by omega)) (by rfl) T.run_sum_m T.run_sum_F.kp (kb_run_sum_run T.run_sum_F) (takes_of rfl rfl rfl rfl) (pdk_cons (pd_var 5) pdk_nil)) (pd_var 6) (nomark _)))))) (pdss_one (pds_ret pd_bl)) pdss_nil)
      (pdss_cons (pds_setS (i := 6) sc_law.nd rfl (Or.inl rfl) (psl_v (pd_call (ok_law_folded T) (hr.mono (by omega)) (by rfl) T.law_folded_m T.law_folded_F.kp T.law_folded_b (takes_of rfl rfl rfl rfl) (pda_cons (pd_var 5) pda_nil))))
      (pdss_cons (pds_if (pqw_pt (pqw_or (pq_not (pq_tru (pd_call (ok_law_same T) (hr.mono (by omega)) (by rfl) T.law_same_m T.law_same_F.kp T.law_same_b (takes_of rfl rfl rfl rfl) (pda_cons (pd_call (ok_folded T) (hr.mono (by omega)) (by rfl) T.folded_m T.folded_F.kp T.folded_b (takes_of rfl rfl rfl rfl) (pda_cons (pd_var 5) pda_nil)) (pda_cons (pd_var 6) pda_nil))))) (pqw_or1 (pq_not (pq_tru (pd_call (ok_law_same T) (hr.mono (by omega)) (by rfl) T.law_same_m T.law_same_F.kp T.law_same_b (takes_of rfl rfl rfl rfl) (pda_cons (pd_callK (ks := ["run"]) (is := [0]) (ok_folded T) (hr.mono (by omega)) (by rfl) T.folded_m T.folded_F.kp (kb_folded_run T.folded_F) (takes_of rfl rfl rfl rfl) (pdk_cons (pd_var 6) pdk_nil)) (pda_cons (pd_var 6) pda_nil)))))))) (pdss_one (pds_ret pd_bl)) pdss_nil)
      (pdss_cons (pds_setS (i := 1) sc_law.nd rfl (Or.inl rfl) (psl_v (pd_call (ok_law_box T) (hr.mono (by omega)) (by rfl) T.law_box_m T.law_box_F.kp T.law_box_b (takes_of rfl rfl rfl rfl) (pda_cons (pd_var 0) (pda_cons pd_int pda_nil)))))
      (pdss_cons (pds_setS (i := 7) sc_law.nd rfl (Or.inl rfl) (psl_l (pl_lst pda_nil)))
      (pdss_cons (pds_for (passes_of rfl) rfl (pdi_walk (pd_sl sl_U sdU (pd_call (ok_law_mixed T) (hr.mono (by omega)) (by rfl) T.law_mixed_m T.law_mixed_F.kp T.law_mixed_b (takes_of rfl rfl rfl rfl) (pda_cons (pd_var 1) (pda_cons (pd_var 4) pda_nil))) pdo_none (pdo_some (pd_call (ok_law_take T) (hr.mono (by omega)) (by rfl) T.law_take_m T.law_take_F.kp T.law_take_b (takes_of rfl rfl rfl rfl) (pda_cons (pd_var 1) (pda_cons (pd_op op_addU odAddU (pd_bt (pe_callB call_len (by rfl) T.z_len (by decide +kernel) (pda_cons (pd_var 4) pda_nil)) cdLen) pd_int) pda_nil)))))) (pgd_name (i := 8) sc_law.nd rfl (Or.inl rfl)) (pdss_one (pds_append (ps_expr (pe_bm PySem.F.plainAttrs_list PySem.F.slot_list_append PySem.F.type_list_append mt_append (pv 7) (pa_cons (pd_tup (pda_cons (pd_var 8) (pda_cons (pd_call (ok_law_pick T) (hr.mono (by omega)) (by rfl) T.law_pick_m T.law_pick_F.kp T.law_pick_b (takes_of rfl rfl rfl rfl) (pda_cons (pd_var 1) (pda_cons (pd_of_pl (pl_lst (pda_cons pd_int (pda_cons pd_int (pda_cons (pd_un un_neg udNeg pd_int) (pda_cons (pd_call (ok_law_times T) (hr.mono (by omega)) (by rfl) T.law_times_m T.law_times_F.kp T.law_times_b (takes_of rfl rfl rfl rfl) (pda_cons (pd_var 1) pda_nil)) (pda_cons (pd_un un_neg udNeg (pd_call (ok_law_times T) (hr.mono (by omega)) (by rfl) T.law_times_m T.law_times_F.kp T.law_times_b (takes_of rfl rfl rfl rfl) (pda_cons (pd_var 1) pda_nil))) (pda_cons (pd_op op_sub odSubU (pd_call (ok_law_take T) (hr.mono (by omega)) (by rfl) T.law_take_m T.law_take_F.kp T.law_take_b (takes_of rfl rfl rfl rfl) (pda_cons (pd_var 1) (pda_cons pd_int pda_nil))) pd_int) pda_nil)))))))) pda_nil))) pda_nil))) pa_nil)) (by rfl)))))
      (pdss_let 7 (pdss_one (pds_ret (pd_call (ok_law_same T) (hr.mono (by omega)) (by rfl) T.law_same_m T.law_same_F.kp T.law_same_b (takes_of rfl rfl rfl rfl) (pda_cons (pd_callK (ks := ["steps", "plan"]) (is := [1, 0]) (ok_sum_change T) (hr.mono (by omega)) (by rfl) T.sum_change_m T.sum_change_F.kp (kb_sum_change_steps_plan T.sum_change_F) (takes_of rfl rfl rfl rfl) (pdk_cons (pd_bt (pe_callTy call_tuple_of (by rfl) T.z_tuple (by decide +kernel) (pda_cons (pd_var 7) pda_nil)) cdTuple) (pdk_cons (pd_var 3) pdk_nil))) (pda_cons (pd_call (ok_law_change T) (hr.mono (by omega)) (by rfl) T.law_change_m T.law_change_F.kp T.law_change_b (takes_of rfl rfl rfl rfl) (pda_cons (pd_ix ix_U odIxU (pd_var 2) pd_int (fun _ _ => rfl)) (pda_cons (pd_var 7) pda_nil))) pda_nil)))))))))))))))))), fun _ _ _ _ hF => hF⟩
@[irreducible] def F_law (T : Tx K mg) : Fd := Fr_law T
theorem ok_law (T : Tx K mg) : FnOk P w K mg base (L2.CX P w) 10 T.law T.law_fd ["script"] (spP K 1 (F_law T)) := by
  unfold F_law
  exact okr_law T
end
end K09
set_option maxRecDepth 100000
set_option maxHeartbeats 4000000
namespace K09
open PySem PySem.Spec PyProof.Rows L2 Pre Pd
section
variable {P : Program} {w : World} {K : PySem.W.Frag} {mg : Str → Option Value} {base : Heap} (T : Tx K mg) {Q : D → Prop} {R : Err → Prop}
/-- data of which isinstance is told -/
def kn (T : Tx K mg) : D → Bool
  | .hid _ => false | .frz _ => false | .raw _ => false
  | .obj C _ _ => decide (C = T.Plan)
  | _ => true
theorem isi_ok {k : Kd} {d : D} (h : kn T d = true) (q : Q (.bl (isKd k d))) : φIsi k T.objs d Q := by
  unfold φIsi
  cases d <;> first | exact q | (cases h; done) | skip
  exact ⟨by simpa [Tx.objs, kn] using h, q⟩
theorem is_integer_s {d : D} (h : kn T d = true) (q : Q (.bl (match d with | .int _ => true | _ => false))) : F_is_integer T [d] Q R := by
  unfold F_is_integer Fr_is_integer
  refine isi_ok T h ?_
  cases d <;> first | exact q | skip
  · exact isi_ok T rfl q
  · exact isi_ok T rfl q
def isCount : D → Bool
  | .int i => decide (1 ≤ i)
  | _ => false
theorem is_count_s {d : D} (h : kn T d = true) (q : Q (.bl (isCount d))) : F_is_count T [d] Q R := by
  unfold F_is_count Fr_is_count
  refine ⟨rfl, is_integer_s T h ?_⟩
  cases d <;> exact q
def isNameD : D → Bool
  | .str s => isName s
  | _ => false
theorem is_name_s {d : D} (h : kn T d = true) (hs : ∀ s, d = .str s → s.length ≤ 16777216) (q : Q (.bl (isNameD d))) : F_is_name T [d] Q R := by
  unfold F_is_name Fr_is_name
  refine isi_ok T h ?_
  cases d <;> first | exact q | skip
  rename_i s
  have hs := hs s rfl
  refine ⟨by rw [sizeLine_eq]; exact hs, ?_⟩
  by_cases h1 : 1 ≤ s.length
  · refine wT (decide_eq_true (by omega)) ?_
    by_cases h2 : s.length ≤ 8
    · refine wF (nT (by omega)) ?_
      refine lc_map (fun d => .bl (letD d)) (small _ (by rw [signs_len]; omega)) (fun d hd Q hq => ⟨_, rfl, ?_⟩) ?_
      · obtain ⟨c, hc, rfl⟩ := List.mem_map.mp hd
        refine in_sign ?_
        show Q (.bl (decide (c ∈ ("abcdefghijklmnopqrstuvwxyz" : Str).cps.toList)))
        rw [letter_mem]
        exact hq
      · refine all_ok _ (map_letD s) ?_
        have e : ((s.cps.toList.map isLetter).all id) = isName s := by
          unfold isName
          rw [decide_eq_true h1, decide_eq_true h2, List.all_map]
          rfl
        rw [e]
        exact q
    · refine wT (nF (by omega)) ?_
      have e : isNameD (.str s) = false := by
        show isName s = false
        unfold isName
        rw [decide_eq_false h2, Bool.false_and, Bool.and_false]
      rw [e] at q
      exact q
  · refine wF (decide_eq_false (by omega)) ?_
    have e : isNameD (.str s) = false := by
      show isName s = false
      unfold isName
      rw [decide_eq_false h1, Bool.false_and]
    rw [e] at q
    exact q
def isPairD : D → Bool
  | .tup ds => decide (ds.length = 2)
  | _ => false
theorem is_pair_s {d : D} (h : kn T d = true) (q : Q (.bl (isPairD d))) : F_is_pair T [d] Q R := by
  unfold F_is_pair Fr_is_pair
  refine isi_ok T h ?_
  cases d <;> first | exact q | skip
  rename_i ds
  have e : ((ds.length : Int) == 2) = isPairD (.tup ds) := by
    show ((ds.length : Int) == 2) = decide (ds.length = 2)
    rw [Bool.eq_iff_iff, beq_iff_eq, decide_eq_true_iff]
    omega
  refine eqi ?_
  show Q (.bl (decide ((ds.length : Int) = 2)))
  have e2 : decide ((ds.length : Int) = 2) = isPairD (.tup ds) := by
    rw [← e, Bool.eq_iff_iff, beq_iff_eq, decide_eq_true_iff]
  rw [e2]
  exact q
/-! ### heaps -/
abbrev Hpx := List (Str × Int)
def pairD (p : Str × Int) : D := .tup [.str p.1, .int p.2]
def heapD (h : Hpx) : D := .tup (h.map pairD)
def Asc (ns : List Str) : Prop := ns.Pairwise fun a b => sLt a b = true
structure GoodH (h : Hpx) : Prop where
  nm : ∀ p ∈ h, isName p.1 = true
  ct : ∀ p ∈ h, 1 ≤ p.2
  asc : Asc (h.map (·.1))
  len : h.length ≤ 1000
theorem isName_len {s : Str} (h : isName s = true) : s.length ≤ 8 := by
  unfold isName at h
  rw [Bool.and_eq_true, Bool.and_eq_true] at h
  exact of_decide_eq_true h.2.1
theorem enum_at {ds : List D} {i : Nat} {d : D} (h : (enumD 0 ds)[i]? = some d) : ∃ x, ds[i]? = some x ∧ d = .tup [.int (i : Int), x] := by
  obtain ⟨x, h1, h2⟩ := enumD_get ds 0 i d h
  exact ⟨x, h1, by rw [h2, Nat.zero_add]⟩
theorem asc_at {ns : List Str} (h : Asc ns) {i j : Nat} {a b : Str} (ha : ns[i]? = some a) (hb : ns[j]? = some b) (lt : i < j) : sLt a b = true := by
  obtain ⟨h1, e1⟩ := List.getElem?_eq_some_iff.mp ha
  obtain ⟨h2, e2⟩ := List.getElem?_eq_some_iff.mp hb
  have := List.pairwise_iff_getElem.mp h i j h1 h2 lt
  rw [e1, e2] at this
  exact this
theorem first_wrong_good {h : Hpx} (g : GoodH h) (q : Q .non) : F_first_wrong T [heapD h, .raw (.ref T.is_count)] Q R := by
  unfold F_first_wrong Fr_first_wrong
  refine isi_ok T rfl ?_
  refine wF rfl ?_
  refine for_inv (enumD 0 (h.map pairD)) (by exact fun Q R q => q) (fun i e => ∃ a b, e = [.v (heapD h), .v (.raw (.ref T.is_count)), a, b]) ⟨_, _, rfl⟩ ?_ ?_
  · rintro i d e0 Q hd ⟨a, b, rfl⟩ hq
    obtain ⟨x, hx, rfl⟩ := enum_at hd
    rw [List.getElem?_map] at hx
    cases hp : h[i]? with
    | none => rw [hp] at hx; cases hx
    | some p =>
      rw [hp] at hx
      cases hx
      have hm := List.mem_of_getElem? hp
      refine ⟨_, rfl, rfl, is_pair_s T rfl (wF rfl (ixt 0 rfl ?_))⟩
      refine ⟨rfl, is_name_s T rfl (fun s hs => by cases hs; have := isName_len (g.nm p hm); omega) (wF (by rw [show isNameD (.str p.1) = true from g.nm p hm]; rfl) ?_)⟩
      refine ⟨rfl, ixt 1 rfl ⟨rfl, is_count_s T rfl (wF (by rw [show isCount (.int p.2) = true from decide_eq_true (g.ct p hm)]; rfl) ?_)⟩⟩
      by_cases i0 : i = 0
      · exact wF (decide_eq_false (by omega)) (wF rfl (hq.nx _ ⟨_, _, rfl⟩))
      · obtain ⟨p', hp'⟩ : ∃ p', h[i - 1]? = some p' := ⟨_, List.getElem?_eq_getElem (show i - 1 < h.length by have := get_lt hp; omega)⟩
        refine wT (decide_eq_true (by omega)) (ixt 0 rfl (ixt (i - 1) (by rw [List.getElem?_map, hp']; rfl) (ixt 0 rfl ?_)))
        have lt : sLt p'.1 p.1 = true := asc_at g.asc (i := i - 1) (j := i) (by rw [List.getElem?_map, hp']; rfl) (by rw [List.getElem?_map, hp]; rfl) (by omega)
        exact wF (by show (!sLt p'.1 p.1) = false; rw [lt]; rfl) (hq.nx _ ⟨_, _, rfl⟩)
  · rintro e ⟨a, b, rfl⟩
    exact q
theorem is_heap_good {h : Hpx} (g : GoodH h) (q : Q (.bl true)) : F_is_heap T [heapD h] Q R := by
  unfold F_is_heap Fr_is_heap
  exact ⟨rfl, first_wrong_good T g (isN_non q)⟩
/-- how many papers of a place -/
def amt (h : Hpx) (s : Str) : Int := match h.find? (fun p => p.1 == s) with
  | some p => p.2
  | none => 0
theorem amount_s {h : Hpx} {s : Str} (q : Q (.int (amt h s))) : F_amount T [heapD h, .str s] Q R := by
  unfold F_amount Fr_amount
  refine for_inv (h.map pairD) (by exact fun Q R q => q) (fun i e => (∃ a b, e = [.v (heapD h), .v (.str s), a, b]) ∧ ∀ p ∈ h.take i, (p.1 == s) = false) ⟨⟨_, _, rfl⟩, by simp⟩ ?_ ?_
  · rintro i d e0 Q' hd ⟨⟨a, b, rfl⟩, hb⟩ hq
    rw [List.getElem?_map] at hd
    cases hp : h[i]? with
    | none => rw [hp] at hd; cases hd
    | some p =>
      rw [hp] at hd
      cases hd
      refine ⟨_, rfl, eq_scal rfl ?_⟩
      refine wTF (fun hc => ?_) (fun hc => ?_)
      · refine hq.rt _ ?_
        have e : amt h s = p.2 := by
          unfold amt
          have : h.find? (fun p => p.1 == s) = some p := by
            obtain ⟨hi, ei⟩ := List.getElem?_eq_some_iff.mp hp
            have e0 : h = h.take i ++ p :: h.drop (i + 1) := by
              rw [← ei, ← List.drop_eq_getElem_cons hi, List.take_append_drop]
            rw [e0, List.find?_append, List.find?_eq_none.mpr (fun x hx => by rw [hb x hx]; decide), Option.none_or, List.find?_cons_of_pos (by exact hc)]
          rw [this]
        rw [e] at q
        exact q
      · refine hq.nx _ ⟨⟨_, _, rfl⟩, fun x hx => ?_⟩
        rw [List.take_add_one, hp] at hx
        rcases List.mem_append.mp hx with hx | hx
        · exact hb x hx
        · have : x = p := by simpa using hx
          rw [this]
          exact hc
  · rintro e ⟨⟨a, b, rfl⟩, hb⟩
    have e : amt h s = 0 := by
      unfold amt
      rw [List.length_map, List.take_length] at hb
      rw [List.find?_eq_none.mpr (fun x hx => by rw [hb x hx]; decide)]
    rw [e] at q
    exact q
end
end K09
set_option maxRecDepth 100000
set_option maxHeartbeats 4000000
namespace K09
open PySem PySem.Spec PyProof.Rows L2 Pre Pd
section
variable {P : Program} {w : World} {K : PySem.W.Frag} {mg : Str → Option Value} {base : Heap} (T : Tx K mg) {Q : D → Prop} {R : Err → Prop}
theorem need_places_s {ns : List Str} (hn : ∀ s ∈ ns, isName s = true) (ha : Asc ns) (q : Q .non) : F_need_places T [.tup (ns.map .str)] Q R := by
  unfold F_need_places Fr_need_places
  refine isi_ok T rfl (wF rfl ?_)
  refine for_inv (enumD 0 (ns.map .str)) (by exact fun Q R q => q) (fun i e => ∃ a b, e = [.v (.tup (ns.map .str)), a, b]) ⟨_, _, rfl⟩ ?_ ?_
  · rintro i d e0 Q hd ⟨a, b, rfl⟩ hq
    obtain ⟨x, hx, rfl⟩ := enum_at hd
    obtain ⟨s, hs, rfl⟩ := map_str_at hx
    have hm := hn s (List.mem_of_getElem? hs)
    refine ⟨_, rfl, rfl, is_name_s T rfl (fun s' e => by cases e; have := isName_len hm; omega) (wF (by rw [show isNameD (.str s) = true from hm]; rfl) ?_)⟩
    by_cases i0 : i = 0
    · exact wF (decide_eq_false (by omega)) (wF rfl (hq.nx _ ⟨_, _, rfl⟩))
    · obtain ⟨s', hs'⟩ : ∃ s', ns[i - 1]? = some s' := ⟨_, List.getElem?_eq_getElem (show i - 1 < ns.length by have := get_lt hs; omega)⟩
      refine wT (decide_eq_true (by omega)) (ixt (i - 1) (at_map hs') ?_)
      have lt := asc_at ha hs' hs (by omega)
      exact wF (by show (!sLt s' s) = false; rw [lt]; rfl) (hq.nx _ ⟨_, _, rfl⟩)
  · rintro e ⟨a, b, rfl⟩
    exact q
structure GoodS (pl : List Str) (h : Hpx) : Prop extends GoodH h where
  ne : h ≠ []
  inn : ∀ p ∈ h, p.1 ∈ pl ∧ p.2 ≤ 9
theorem okD_str {s : Str} (h : isName s = true) : okD (.str s) = true := by
  unfold isName at h
  rw [Bool.and_eq_true, Bool.and_eq_true] at h
  show PyData.strOk s = true
  unfold PyData.strOk
  rw [Array.all_eq_true']
  intro c hc
  have := List.all_eq_true.mp h.2.2 c (by simpa using hc)
  unfold isLetter at this
  have := of_decide_eq_true this
  exact decide_eq_true (by omega)
theorem okA_all {ds : List D} (h : ∀ d ∈ ds, okD d = true) : okA ds = true := by
  induction ds with
  | nil => rfl
  | cons d ds ih =>
    simp only [okA, Bool.and_eq_true]
    exact ⟨h d List.mem_cons_self, ih fun x hx => h x (List.mem_cons_of_mem _ hx)⟩
theorem depA_all {ds : List D} {n : Nat} (h : ∀ d ∈ ds, dep d ≤ n) : depA ds ≤ n := by
  induction ds with
  | nil => exact Nat.zero_le _
  | cons d ds ih =>
    show max (dep d) (depA ds) ≤ n
    exact Nat.max_le.mpr ⟨h d List.mem_cons_self, ih fun x hx => h x (List.mem_cons_of_mem _ hx)⟩
theorem okD_heap {h : Hpx} (g : ∀ p ∈ h, isName p.1 = true) : okD (heapD h) = true := by
  show okA _ = true
  refine okA_all fun d hd => ?_
  obtain ⟨p, hp, rfl⟩ := List.mem_map.mp hd
  show okA [.str p.1, .int p.2] = true
  simp only [okA, Bool.and_true, Bool.and_eq_true]
  exact ⟨okD_str (g p hp), rfl⟩
theorem dep_heap (h : Hpx) : dep (heapD h) ≤ 2 := by
  show depA _ + 1 ≤ 2
  refine Nat.succ_le_succ (depA_all fun d hd => ?_)
  obtain ⟨p, hp, rfl⟩ := List.mem_map.mp hd
  exact Nat.le_refl 1
theorem is_side_s {pl : List Str} {h : Hpx} (g : GoodS pl h) (q : Q (.bl true)) : F_is_side T [.tup (pl.map .str), heapD h] Q R := by
  unfold F_is_side Fr_is_side
  refine ⟨rfl, is_heap_good T g.toGoodH (wF rfl ?_)⟩
  refine ⟨small 0, eq_ok (okD_heap g.nm) rfl (by have := dep_heap h; omega) (by decide) ?_⟩
  have e : eqD (heapD h) (.tup []) = false := by
    show eqD (.tup (h.map pairD)) (.tup []) = false
    rw [eqD_tup (by have := okD_heap g.nm; exact this) rfl]
    cases hh : h with
    | nil => exact absurd hh g.ne
    | cons p t => rfl
  refine wF e ?_
  refine lc_map (fun d => .bl true) (small _ (by rw [List.length_map]; have := g.len; omega)) (fun d hd Q hq => ?_) ?_
  · obtain ⟨p, hp, rfl⟩ := List.mem_map.mp hd
    refine ⟨_, rfl, in_tupS (wT (decide_eq_true (g.inn p hp).1) ?_)⟩
    have e2 : decide (p.2 ≤ 9) = true := decide_eq_true (g.inn p hp).2
    show Q (.bl (decide (p.2 ≤ 9)))
    rw [e2]
    exact hq
  · refine all_ok ((h.map pairD).map fun _ => true) (by simp) ?_
    have e2 : ((h.map pairD).map fun _ => true).all id = true := by
      rw [List.all_map]
      exact List.all_eq_true.mpr fun _ _ => rfl
    rw [e2]
    exact q
/-- a step -/
abbrev Stx := Str × Hpx × Hpx
def stepD (t : Stx) : D := .tup [.str t.1, heapD t.2.1, heapD t.2.2]
structure GoodSt (pl : List Str) (st en : Str) (t : Stx) : Prop where
  nm : isName t.1 = true
  tk : GoodS pl t.2.1
  ly : GoodS pl t.2.2
  ne : ∀ p ∈ t.2.1, p.1 ≠ en
  ns : ∀ p ∈ t.2.2, p.1 ≠ st
theorem amt_none {h : Hpx} {s : Str} (g : ∀ p ∈ h, p.1 ≠ s) : amt h s = 0 := by
  unfold amt
  rw [List.find?_eq_none.mpr (fun x hx => by simpa using g x hx)]
theorem is_step_s {pl : List Str} {st en : Str} {t : Stx} (g : GoodSt pl st en t) (q : Q (.bl true)) : F_is_step T [.tup (pl.map .str), stepD t, .str st, .str en] Q R := by
  unfold F_is_step Fr_is_step
  refine isi_ok T rfl (wF rfl ?_)
  refine eq_ok rfl rfl leR leR (wF rfl (ixt 0 rfl ⟨rfl, is_name_s T rfl (fun s e => by cases e; have := isName_len g.nm; omega) (wF (by rw [show isNameD (.str t.1) = true from g.nm]; rfl) ?_)⟩))
  refine ixt 1 rfl ⟨rfl, is_side_s T g.tk (wF rfl (ixt 2 rfl ⟨rfl, is_side_s T g.ly (wF rfl ?_)⟩))⟩
  refine ixt 1 rfl ⟨rfl, amount_s T ?_⟩
  rw [amt_none g.ne]
  refine eq_ok rfl rfl leR leR (wT rfl (ixt 2 rfl ⟨rfl, amount_s T ?_⟩))
  rw [amt_none g.ns]
  exact eq_ok rfl rfl leR leR q
structure GoodSts (pl : List Str) (st en : Str) (ts : List Stx) : Prop where
  each : ∀ t ∈ ts, GoodSt pl st en t
  asc : Asc (ts.map (·.1))
def stepsD (ts : List Stx) : D := .tup (ts.map stepD)
theorem need_steps_s {pl : List Str} {st en : Str} {ts : List Stx} (g : GoodSts pl st en ts) (q : Q .non) : F_need_steps T [.tup (pl.map .str), stepsD ts, .str st, .str en] Q R := by
  unfold F_need_steps Fr_need_steps
  refine isi_ok T rfl (wF rfl ?_)
  refine for_inv (enumD 0 (ts.map stepD)) (by exact fun Q R q => q) (fun i e => ∃ a b, e = [.v (.tup (pl.map .str)), .v (stepsD ts), .v (.str st), .v (.str en), a, b]) ⟨_, _, rfl⟩ ?_ ?_
  · rintro i d e0 Q hd ⟨a, b, rfl⟩ hq
    obtain ⟨x, hx, rfl⟩ := enum_at hd
    obtain ⟨t, ht, rfl⟩ := map_at hx
    refine ⟨_, rfl, rfl, is_step_s T (g.each t (List.mem_of_getElem? ht)) (wF rfl ?_)⟩
    by_cases i0 : i = 0
    · exact wF (decide_eq_false (by omega)) (wF rfl (hq.nx _ ⟨_, _, rfl⟩))
    · obtain ⟨t', ht'⟩ : ∃ t', ts[i - 1]? = some t' := ⟨_, List.getElem?_eq_getElem (show i - 1 < ts.length by have := get_lt ht; omega)⟩
      refine wT (decide_eq_true (by omega)) (ixt 0 rfl (ixt (i - 1) (at_map ht') (ixt 0 rfl ?_)))
      have lt : sLt t'.1 t.1 = true := asc_at g.asc (i := i - 1) (j := i) (by rw [List.getElem?_map, ht']; rfl) (by rw [List.getElem?_map, ht]; rfl) (by omega)
      exact wF (by show (!sLt t'.1 t.1) = false; rw [lt]; rfl) (hq.nx _ ⟨_, _, rfl⟩)
  · rintro e ⟨a, b, rfl⟩
    exact q
/-- a plan -/
structure Pln where
  pl : List Str
  ts : List Stx
  st : Str
  en : Str
structure GoodP (p : Pln) : Prop where
  nm : ∀ s ∈ p.pl, isName s = true
  asc : Asc p.pl
  st : p.st ∈ p.pl
  en : p.en ∈ p.pl
  ne : p.st ≠ p.en
  ts : GoodSts p.pl p.st p.en p.ts
def planFs : List Str := ["places", "steps", "start", "end"]
def planVs (p : Pln) : List D := [.tup (p.pl.map .str), stepsD p.ts, .str p.st, .str p.en]
def planD (p : Pln) : D := .obj T.Plan planFs (planVs p)
theorem Plan_s {p : Pln} (g : GoodP p) {Pm : List Str × List D → Prop} (q : Pm (planFs, planVs p)) : F_Plan_i T (planVs p) Pm R := by
  unfold F_Plan_i Fr_Plan_i
  intro x
  have ns := g.nm p.st g.st
  have ne := g.nm p.en g.en
  refine ⟨rfl, need_places_s T g.nm g.asc ?_⟩
  refine ⟨rfl, is_name_s T rfl (fun s e => by cases e; have := isName_len ns; omega) (wF (by rw [show isNameD (.str p.st) = true from ns]; rfl) (in_tupS (wF (nT g.st) ?_)))⟩
  refine ⟨rfl, is_name_s T rfl (fun s e => by cases e; have := isName_len ne; omega) (wF (by rw [show isNameD (.str p.en) = true from ne]; rfl) (in_tupS (wF (nT g.en) ?_)))⟩
  refine eq_ok (okD_str ne) (okD_str ns) leR leR (wF ?_ ⟨rfl, need_steps_s T g.ts ?_⟩)
  · show (p.en == p.st) = false
    rw [beq_eq_false_iff_ne]
    exact fun h => g.ne h.symm
  · exact ⟨⟨_, _, _, rfl⟩, leR, ⟨_, _, _, rfl⟩, leR, ⟨_, _, _, rfl⟩, leR, ⟨_, _, _, rfl⟩, leR, rfl, rfl, q⟩
end
end K09
set_option maxRecDepth 100000
set_option maxHeartbeats 4000000
namespace K09
open PySem PySem.Spec PyProof.Rows L2 Pre Pd
section
variable {P : Program} {w : World} {K : PySem.W.Frag} {mg : Str → Option Value} {base : Heap} (T : Tx K mg) {Q : D → Prop} {R : Err → Prop}
theorem take_s {many : Int} (h1 : 1 ≤ many) (h2 : many ≤ 10 ^ 18) (q : ∀ r : Nat, (r : Int) < many → Q (.int r)) : F_law_take T [dBox, .int many] Q R := by
  unfold F_law_take
  refine ⟨rfl, h1, h2, fun r r0 r1 => ?_⟩
  obtain ⟨n, rfl⟩ := Int.eq_ofNat_of_zero_le r0
  exact q n r1
theorem mulOk {i j : Int} (a b : Nat) (ha : i.natAbs < 2 ^ a) (hb : j.natAbs < 2 ^ b) (h : a + b ≤ 1000000 := by decide) (h0 : 0 < a := by decide) (h1 : 0 < b := by decide) : CMulW i j := wide_mul ha hb h0 h1 h
theorem ne0 : (2147483629 : Int) ≠ 0 := by decide
theorem box_s {ns : List Int} (hl : ns.length ≤ 63) {k : Nat} (hk : k ≤ 100) (q : Q dBox) : F_law_box T [.frz (ns.map D.int), .int k] Q R := by
  unfold F_law_box Fr_law_box
  have key : ∀ c : Int, 0 ≤ c → (wRet (wHid BoxP (wLst (wCons (wOp φIxU (wLV (wLst (wCons (wC (.int 0)) (wCons (wVar 2) wNil)))) (wBt φInt (wCons (wOp φGeU (wVar 2) (wOp φPow (wC (.int 10)) (wC (.int 18)))) wNil))) (wCons (wOp φAdd (wOp φMod (wBt φInt (wCons (wOp φAdd (wOp φMul (wOp φMod (wBt φInt (wCons (wVar 2) wNil)) (wC (.int 2147483629))) (wC (.int 48271))) (wOp φMul (wC (.int 69621)) (wVar 1))) wNil)) (wC (.int 2147483629))) (wC (.int 1))) (wCons (wC (.int 0)) wNil))))))
      [.v (.frz (ns.map D.int)), .v (.int k), .v (.int c)] (fin Q R) := by
    intro c c0
    refine ⟨small 2, ⟨by decide, by decide, by decide⟩, ?_⟩
    have m1 : (c.fmod 2147483629).natAbs < 2 ^ 40 := by
      have h1 := Int.fmod_nonneg_of_pos c (show (0 : Int) < 2147483629 by decide)
      have h2 := Int.fmod_lt_of_pos c (show (0 : Int) < 2147483629 by decide)
      omega
    have fin2 : ∀ d : Int, 0 ≤ d → (wHid BoxP (wLst (wCons (wC (.int d)) (wCons (wOp φAdd (wOp φMod (wBt φInt (wCons (wOp φAdd (wOp φMul (wOp φMod (wBt φInt (wCons (wVar 2) wNil)) (wC (.int 2147483629))) (wC (.int 48271))) (wOp φMul (wC (.int 69621)) (wVar 1))) wNil)) (wC (.int 2147483629))) (wC (.int 1))) (wCons (wC (.int 0)) wNil)))))
        [.v (.frz (ns.map D.int)), .v (.int k), .v (.int c)] Q R := by
      intro d d0
      refine ⟨ne0, mulOk 40 20 m1 (by decide), mulOk 20 20 (by decide) (by omega), ne0, small 3, fun K' G vs r => ?_, q⟩
      cases r with
      | cons h r =>
        obtain ⟨v, u, rfl, h2, h3⟩ := r.two_inv
        cases h
        cases h2
        cases h3
        refine ⟨_, _, _, rfl, d0, ?_, by decide⟩
        have := Int.fmod_nonneg_of_pos ((c.fmod 2147483629 * 48271 + 69621 * (k : Int))) (show (0 : Int) < 2147483629 by decide)
        show 0 ≤ (c.fmod 2147483629 * 48271 + 69621 * (k : Int)).fmod 2147483629 + 1
        omega
    cases hb : decide ((10 : Int) ^ (18 : Int).toNat ≤ c) with
    | true => exact ixl 1 rfl (fin2 c c0) (by show (if decide ((10 : Int) ^ (18 : Int).toNat ≤ c) = true then (1 : Int) else 0) = ((1 : Nat) : Int); rw [hb]; rfl)
    | false => exact ixl 0 rfl (fin2 0 (by decide)) (by show (if decide ((10 : Int) ^ (18 : Int).toNat ≤ c) = true then (1 : Int) else 0) = ((0 : Nat) : Int); rw [hb]; rfl)
  have at_ : ∀ {i : Nat}, i < ns.length → ∃ m : Int, (ns.map D.int)[i]? = some (.int m) := fun {i} hi => ⟨ns[i], by rw [List.getElem?_map, List.getElem?_eq_getElem hi]; rfl⟩
  refine ⟨mulOk 20 20 (by decide) (by omega), ?_⟩
  refine wTF (fun hc => ?_) (fun hc => ?_)
  · have hc := of_decide_eq_true hc
    rw [List.length_map] at hc
    obtain ⟨m, hm⟩ := at_ (show k < ns.length by omega)
    exact ixf k hm (key _ (by omega))
  · refine wTF (fun hd => ?_) (fun hd => key _ (by omega))
    have hd := of_decide_eq_true hd
    rw [List.length_map] at hd
    have nz : (ns.length : Int) ≠ 0 := by omega
    refine ⟨by rw [List.length_map]; exact nz, ?_⟩
    have h1 := Int.fmod_nonneg_of_pos (k : Int) (show (0 : Int) < (ns.length : Int) by omega)
    have h2 := Int.fmod_lt_of_pos (k : Int) (show (0 : Int) < (ns.length : Int) by omega)
    obtain ⟨i, hi⟩ := Int.eq_ofNat_of_zero_le h1
    obtain ⟨m, hm⟩ := at_ (show i < ns.length by omega)
    refine ixf i hm ?_ (by rw [List.length_map]; exact hi)
    have h3 := Int.fmod_nonneg_of_pos (m.natAbs : Int) (show (0 : Int) < 2147483629 by decide)
    have h4 := Int.fmod_lt_of_pos (m.natAbs : Int) (show (0 : Int) < 2147483629 by decide)
    refine ⟨ne0, mulOk 40 20 (by show ((m.natAbs : Int).fmod 2147483629).natAbs < 2 ^ 40; omega) (by decide), key _ ?_⟩
    show 0 ≤ 7919 * (k : Int) + 2311 + (m.natAbs : Int).fmod 2147483629 * 60013
    omega
theorem pick_s {d : D} {ds : List D} (hw : d.walk = some ds) (h1 : 1 ≤ ds.length) (h2 : ds.length ≤ 100000) (q : ∀ x ∈ ds, Q x) : F_law_pick T [dBox, d] Q R := by
  unfold F_law_pick Fr_law_pick
  cases d <;> first | (cases hw; done) | skip
  · rename_i z
    cases hw
    rw [signs_len] at h1 h2
    refine ⟨by rw [sizeLine_eq]; omega, ⟨rfl, take_s T (by omega) (by omega) fun r hr => ?_⟩⟩
    have hr : r < z.cps.toList.length := by rw [← len_cps]; omega
    refine ixs r (List.getElem?_eq_getElem hr) (by omega) (q _ ?_)
    exact List.mem_map.mpr ⟨_, List.getElem_mem hr, rfl⟩
  · cases hw
    refine ⟨rfl, take_s T (by omega) (by omega) fun r hr => ?_⟩
    exact ixl r (List.getElem?_eq_getElem (by omega)) (q _ (List.getElem_mem _))
  · cases hw
    refine ⟨rfl, take_s T (by omega) (by omega) fun r hr => ?_⟩
    exact ixt r (List.getElem?_eq_getElem (by omega)) (q _ (List.getElem_mem _))
theorem mixed_s {ds : List D} (hl : ds.length ≤ 1000) (q : ∀ ys, ys.Perm ds → Q (.lst ys)) : F_law_mixed T [dBox, .lst ds] Q R := by
  unfold F_law_mixed Fr_law_mixed
  refine ⟨small 0, ?_⟩
  refine for_inv ds (by exact fun Q R q => q) (fun i e => ∃ left found a, e = [.v dBox, .v (.lst ds), .l left, .l found, a] ∧ left.length + i = ds.length ∧ (found ++ left).Perm ds ∧ found.length = i) ⟨_, _, _, rfl, rfl, List.Perm.refl _, rfl⟩ ?_ ?_
  · rintro i d e0 Q' hd ⟨left, found, a, rfl, h1, h2, h3⟩ hq
    have hi := get_lt hd
    refine ⟨_, rfl, ⟨_, rfl⟩, popAt_ok (ds := left) rfl (fun Q'' hQ => ⟨rfl, rfl, take_s T (by omega) (by omega) fun r hr => hQ r (by omega)⟩) (by omega) fun r hr => ?_⟩
    refine ⟨small _ (by omega), hq.nx _ ⟨_, _, _, rfl, ?_, ?_, ?_⟩⟩
    · rw [List.length_eraseIdx_of_lt hr]
      omega
    · rw [List.append_assoc]
      exact ((erase_perm hr).append_left found).trans h2
    · rw [List.length_append, h3]
      rfl
  · rintro e ⟨left, found, a, rfl, h1, h2, h3⟩
    have : left = [] := List.eq_nil_of_length_eq_zero (by omega)
    subst this
    rw [List.append_nil] at h2
    exact q _ h2
end
end K09
set_option maxRecDepth 100000
set_option maxHeartbeats 4000000
namespace K09
open PySem PySem.Spec PyProof.Rows L2 Pre Pd

section
variable {P : Program} {w : World} {K : PySem.W.Frag} {mg : Str → Option Value} {base : Heap} (T : Tx K mg) {Q : D → Prop} {R : Err → Prop}
/-- the word of a kind about a sign -/
def word (kind : Nat) (cs : List Nat) (c t : Nat) : List Nat := match kind with
  | 0 => cs ++ [c]
  | 1 => c :: cs
  | 2 => List.replicate (1 + t) c
  | _ => cs.take (cs.length / 2) ++ [c] ++ cs.drop (cs.length / 2)
def wpos (kind : Nat) (cs : List Nat) : Nat := match kind with
  | 0 => cs.length
  | 1 => 0
  | 2 => 0
  | _ => cs.length / 2
theorem word_at (kind : Nat) (cs : List Nat) (c t : Nat) : (word kind cs c t)[wpos kind cs]? = some c := by
  unfold word wpos
  split
  · simp
  · rfl
  · rw [Nat.add_comm, List.replicate_succ]; rfl
  · rw [List.append_assoc, List.getElem?_append_right (by rw [List.length_take]; omega), List.length_take, Nat.min_eq_left (by omega), Nat.sub_self]
    rfl
theorem word_name {kind : Nat} {cs : List Nat} {c t : Nat} (h1 : cs.length ≤ 7) (h2 : ∀ x ∈ cs, isLetter x = true) (h3 : isLetter c = true) (h4 : t < 8) {s : Str} (hs : s.cps.toList = word kind cs c t) : isName s = true := by
  refine name_of hs ?_ ?_ ?_
  · unfold word
    split <;> simp <;> omega
  · unfold word
    split <;> simp <;> omega
  · intro x hx
    unfold word at hx
    split at hx
    · rcases List.mem_append.mp hx with hx | hx
      · exact h2 x hx
      · rw [List.mem_singleton.mp hx]; exact h3
    · rcases List.mem_cons.mp hx with hx | hx
      · rw [hx]; exact h3
      · exact h2 x hx
    · rw [(List.mem_replicate.mp hx).2]; exact h3
    · rcases List.mem_append.mp hx with hx | hx
      · rcases List.mem_append.mp hx with hx | hx
        · exact h2 x (List.mem_of_mem_take hx)
        · rw [List.mem_singleton.mp hx]; exact h3
      · exact h2 x (List.mem_of_mem_drop hx)
abbrev abc : Str := "abcdefghijklmnopqrstuvwxyz"
theorem abc_at {j : Nat} (h : j < 26) : abc.cps.toList[j]? = some (97 + j) := by
  show ("abcdefghijklmnopqrstuvwxyz" : Str).cps.toList[j]? = _
  rw [letters_list, List.getElem?_map, List.getElem?_range h, Nat.add_comm]
  rfl
def strides : List Nat := [1, 3, 5, 7, 9, 11, 15, 17, 19, 21, 23, 25]
theorem stride_inj {f s i j : Nat} (hs : s ∈ strides) (h : i < j) (h2 : j < 26) : (f + s * i) % 26 ≠ (f + s * j) % 26 := by
  unfold strides at hs
  simp only [List.mem_cons, List.not_mem_nil, or_false] at hs
  rcases hs with rfl | rfl | rfl | rfl | rfl | rfl | rfl | rfl | rfl | rfl | rfl | rfl <;> omega
theorem names_s {many : Nat} (hm : many ≤ 20) (q : ∀ ns : List Str, ns.length = many → (∀ s ∈ ns, isName s = true) → Asc ns → Q (.lst (ns.map D.str))) : F_law_names T [dBox, .int many] Q R := by
  unfold F_law_names Fr_law_names
  refine ⟨⟨_, rfl⟩, rfl, take_s T (by decide) (by decide) fun r hr => ⟨⟨by omega, by omega⟩, ?_⟩⟩
  refine lc_rel (fun i y => ∃ c, isLetter c = true ∧ y = .str ⟨#[c]⟩) (small _ (by rw [rangeD, List.length_map, List.length_range]; omega)) (fun i d Q hd hq => ⟨_, rfl, ?_⟩) fun ys hl hy => ?_
  · refine ⟨rfl, pick_s T (d := .str abc) rfl (by decide) (by decide) fun x hx => hq x ?_⟩
    obtain ⟨c, hc, rfl⟩ := List.mem_map.mp hx
    have : decide (c ∈ ("abcdefghijklmnopqrstuvwxyz" : Str).cps.toList) = true := decide_eq_true hc
    rw [letter_mem] at this
    exact ⟨c, this, rfl⟩
  · obtain ⟨cs, rfl, hcs⟩ := signs_of hy
    have hl7 : cs.length ≤ 7 := by
      rw [List.length_map, List.length_map] at hl
      simp [rangeD] at hl
      omega
    refine join_ok ?_ ?_
    · have e1 : (List.map (fun x => x.length) (cs.map fun c => (⟨#[c]⟩ : Str))) = cs.map fun _ => 1 := by rw [List.map_map]; rfl
      have e2 : (cs.map fun _ => 1).sum = cs.length := by clear hcs hl hy hl7 e1; induction cs with
        | nil => rfl
        | cons c cs ih => rw [List.map_cons, List.sum_cons, ih, List.length_cons]; omega
      rw [e1, e2]
      show cs.length + (cs.map fun c => (⟨#[c]⟩ : Str)).length * 0 ≤ _
      omega
    have hst : (Txt.join ("" : Str) (cs.map fun c => (⟨#[c]⟩ : Str))).cps.toList = cs := join_empty cs
    generalize Txt.join ("" : Str) (cs.map fun c => (⟨#[c]⟩ : Str)) = stem at hst ⊢
    have hsl : stem.length = cs.length := by rw [len_cps, hst]
    refine ⟨rfl, take_s T (by decide) (by decide) fun kind hk => ⟨rfl, take_s T (by decide) (by decide) fun first hf => ⟨small 12, rfl, pick_s T (ds := strides.map fun n : Nat => D.int (n : Int)) rfl (by decide) (by decide) fun x hx => ⟨small 0, ?_⟩⟩⟩⟩
    obtain ⟨stride, hs, rfl⟩ := List.mem_map.mp hx
    have hs25 : stride ≤ 25 := by
      unfold strides at hs
      simp only [List.mem_cons, List.not_mem_nil, or_false] at hs
      omega
    have hk : kind < 4 := by omega
    refine for_inv (rangeD 0 many) (by exact fun Q R q => ⟨⟨by omega, by omega⟩, q⟩) (fun i e => ∃ (found : List Str) (x8 x9 x10 : Sl), e = [.v dBox, .v (.int many), .v (.str abc), .v (.str stem), .v (.int kind), .v (.int first), .v (.int stride), .l (found.map D.str), x8, x9, x10, .no] ∧ found.length = i ∧
      ∀ (j : Nat) (w : Str), found[j]? = some w → isName w = true ∧ w.cps.toList[wpos kind cs]? = some (97 + (first + stride * j) % 26)) ⟨[], _, _, _, rfl, rfl, by simp⟩ ?_ ?_
    · rintro i d e0 Q' hd ⟨found, x8, x9, x10, rfl, hlen, hinv⟩ hq
      obtain ⟨hi, rfl⟩ := range_at hd
      have hmul : stride * i ≤ 500 := by
        have := Nat.mul_le_mul hs25 (show i ≤ 20 by omega)
        omega
      refine ⟨_, rfl, mulOk 20 20 (by omega) (by omega), (by show (26 : Int) ≠ 0; decide), ixs ((first + stride * i) % 26) (abc_at (Nat.mod_lt _ (by decide))) (by decide) ?_ ?_⟩
      · have s1 : stem.length ≤ sizeLine := small _ (by omega)
        have s2 := fun lo hi => cutS_len stem lo hi
        have o1 : (⟨#[97 + (first + stride * i) % 26]⟩ : Str).length = 1 := rfl
        refine ⟨s1, Pre.div_ok (b := 8) (by decide) (by decide), small _ (by rw [o1]; omega), small _ (by rw [o1]; omega), rfl, take_s T (by decide) (by decide) fun t ht => ⟨⟨by omega, by omega, by rw [o1]; decide⟩, s1, small _ (by rw [o1]; have := s2 none (some ((stem.length : Int).fdiv 2)); omega), s1, ?_, small 4, ?_⟩⟩
        · refine small _ ?_
          have l1 := s2 none (some ((stem.length : Int).fdiv 2))
          have l2 := s2 (some ((stem.length : Int).fdiv 2)) none
          have l3 : (cutS stem none (some ((stem.length : Int).fdiv 2)) ++ (⟨#[97 + (first + stride * i) % 26]⟩ : Str)).length = (cutS stem none (some ((stem.length : Int).fdiv 2))).length + 1 := by
            rw [len_cps, cps_app, List.length_append, ← len_cps]
            rfl
          rw [l3]
          omega
        · have key : ∀ wd : Str, wd.cps.toList = word kind cs (97 + (first + stride * i) % 26) t → (found.map D.str).length < sizeLine ∧ Q' (.nx [.v dBox, .v (.int many), .v (.str abc), .v (.str stem), .v (.int kind), .v (.int first), .v (.int stride), .l (found.map D.str ++ [.str wd]), .v (.int i), .v (.str ⟨#[97 + (first + stride * i) % 26]⟩), .v (.int ((stem.length : Int).fdiv 2)), .no]) := by
            intro wd hw
            refine ⟨by rw [List.length_map, sizeLine_eq]; omega, hq.nx _ ⟨found ++ [wd], _, _, _, by rw [List.map_append]; rfl, by rw [List.length_append, hlen]; rfl, fun j v hv => ?_⟩⟩
            by_cases hj : j < found.length
            · rw [List.getElem?_append_left hj] at hv
              exact hinv j v hv
            · rw [List.getElem?_append_right (by omega)] at hv
              have hj2 := get_lt hv
              have ej : j = i := by simp at hj2; omega
              subst ej
              rw [hlen, Nat.sub_self] at hv
              have ev : wd = v := by simpa using hv
              rw [← ev]
              refine ⟨word_name hl7 hcs ?_ (by omega) hw, by rw [hw]; exact word_at _ _ _ _⟩
              unfold isLetter
              exact decide_eq_true (by omega)
          have hh : (stem.length : Int).fdiv 2 = ((stem.length / 2 : Nat) : Int) := by
            rw [Int.fdiv_eq_ediv_of_nonneg _ (by decide)]
            omega
          have hk4 : kind = 0 ∨ kind = 1 ∨ kind = 2 ∨ kind = 3 := by omega
          rcases hk4 with rfl | rfl | rfl | rfl
          · exact ixl 0 rfl (key _ (by rw [cps_app, hst]; rfl))
          · exact ixl 1 rfl (key _ (by rw [cps_app, hst]; rfl))
          · refine ixl 2 rfl (key _ ?_)
            have := repT_cps (97 + (first + stride * i) % 26) (1 + t) (by omega)
            rw [Int.natCast_add] at this
            exact this
          · refine ixl 3 rfl (key _ ?_)
            rw [cps_app, cps_app, hh, cutS_lo _ _ (by omega), cutS_hi _ _ (by omega), hst, hsl]
            rfl
      · rw [Int.fmod_eq_emod_of_nonneg _ (by decide)]
        push_cast
        rfl
    · rintro e ⟨found, x8, x9, x10, rfl, hlen, hinv⟩
      rw [range_len] at hlen
      have nd : found.Nodup := by
        rw [List.nodup_iff_pairwise_ne, List.pairwise_iff_getElem]
        intro i j hi hj lt he
        have h1 := (hinv i found[i] (List.getElem?_eq_getElem hi)).2
        have h2 := (hinv j found[j] (List.getElem?_eq_getElem hj)).2
        rw [he, h2] at h1
        have h3 := Option.some.inj h1
        exact stride_inj (f := first) hs lt (by omega) (by omega)
      refine sorted_strs nd fun ns h1 h2 => q ns (by rw [h1.length_eq, hlen]) (fun s hs => ?_) h2
      obtain ⟨j, hj, e⟩ := List.getElem_of_mem (h1.mem_iff.mp hs)
      exact (hinv j s (by rw [List.getElem?_eq_getElem hj, e])).1
end
end K09
set_option maxRecDepth 100000
set_option maxHeartbeats 4000000
namespace K09
open PySem PySem.Spec PyProof.Rows L2 Pre Pd

section
variable {P : Program} {w : World} {K : PySem.W.Frag} {mg : Str → Option Value} {base : Heap} (T : Tx K mg) {Q : D → Prop} {R : Err → Prop}
structure DrawnH (pl : List Str) (great : Nat) (h : Hpx) : Prop where
  ne : h ≠ []
  asc : Asc (h.map (·.1))
  each : ∀ p ∈ h, p.1 ∈ pl ∧ 1 ≤ p.2 ∧ p.2 ≤ great
  len : h.length ≤ 20
theorem heap_s {pl : List Str} {most great : Nat} (h0 : pl ≠ []) (h1 : pl.length ≤ 1000) (m1 : 1 ≤ most) (m2 : most ≤ 20) (g1 : 1 ≤ great) (g2 : great ≤ 10 ^ 18) (q : ∀ h : Hpx, DrawnH pl great h → Q (heapD h)) : F_law_heap T [dBox, .lst (pl.map D.str), .int most, .int great] Q R := by
  unfold F_law_heap Fr_law_heap
  have hp : 1 ≤ pl.length := by
    cases pl with
    | nil => exact absurd rfl h0
    | cons _ _ => simp
  refine ⟨small 0, ?_⟩
  have main : ∀ r : Nat, r < most → (∀ (chosen : List Str) (x5 x6 : Sl), chosen.Nodup → (∀ s ∈ chosen, s ∈ pl) → chosen.length ≤ r + 1 → chosen ≠ [] → (wLet 4 (wRet (wBt φTuple (wCons (wLV (wComp [6] (wWalk (wLV (wBl φSorted (wCons (wVar 4) wNil)))) (sName 6) wYes (wTup (wCons (wVar 6) (wCons (wOp φAdd (wC (.int 1)) (wCall 2 (F_law_take T) (wCons (wVar 0) (wCons (wVar 3) wNil)))) wNil))))) wNil)))) [.v dBox, .v (.lst (pl.map D.str)), .v (.int most), .v (.int great), .l (chosen.map D.str), x5, x6] (fin Q R)) := by
    intro r hr chosen x5 x6 nd sub cl cn
    refine sorted_strs nd fun ns p1 p2 => ?_
    refine lc_rel (fun i y => ∃ a : Str × Int, ns[i]? = some a.1 ∧ (1 ≤ a.2 ∧ a.2 ≤ great) ∧ y = pairD a) (small _ (by rw [List.length_map, p1.length_eq]; omega)) (fun i d Q hd hq => ?_) fun ys hl hy => ?_
    · obtain ⟨s, hs, rfl⟩ := map_str_at hd
      exact ⟨_, rfl, rfl, take_s T (by omega) (by omega) fun t ht => ⟨small 2, hq _ ⟨(s, 1 + t), hs, ⟨by show (1 : Int) ≤ 1 + t; omega, by show (1 : Int) + t ≤ great; omega⟩, rfl⟩⟩⟩
    · rw [List.length_map] at hl
      obtain ⟨h, rfl, e2, e3⟩ := choose_list pairD (fun a : Str × Int => a.1) (fun a => 1 ≤ a.2 ∧ a.2 ≤ great) hl hy
      refine q h ⟨?_, by rw [e2]; exact p2, fun p hp => ⟨?_, e3 p hp⟩, ?_⟩
      · intro e
        subst e
        have : ns = [] := e2.symm
        rw [this] at p1
        exact cn p1.nil_eq.symm
      · have : p.1 ∈ ns := by rw [← e2]; exact List.mem_map_of_mem hp
        exact sub _ (p1.mem_iff.mp this)
      · have : h.length = ns.length := by rw [← e2, List.length_map]
        rw [this, p1.length_eq]
        omega
  refine for_go (fun ds => ∃ r : Nat, r < most ∧ ds = rangeD 0 (1 + r)) (by exact fun Q' R' k => ⟨rfl, take_s T (by omega) (by omega) fun r hr => ⟨⟨by omega, by omega⟩, k _ ⟨r, by omega, by
    show rangeD 0 ((1 : Int) + (r : Int)).toNat = _
    rw [show ((1 : Int) + (r : Int)).toNat = 1 + r from by omega]⟩⟩⟩) ?_
  rintro ds ⟨r, hr, rfl⟩
  refine loop0 (fun i e => ∃ (chosen : List Str) (x5 x6 : Sl), e = [.v dBox, .v (.lst (pl.map D.str)), .v (.int most), .v (.int great), .l (chosen.map D.str), x5, x6] ∧ chosen.Nodup ∧ (∀ s ∈ chosen, s ∈ pl) ∧ chosen.length ≤ i ∧ (0 < i → chosen ≠ [])) ⟨[], _, _, rfl, List.nodup_nil, by simp, Nat.le_refl _, by simp⟩ ?_ ?_
  · rintro i d e0 Q' hd ⟨chosen, x5, x6, rfl, nd, sub, cl, cn⟩ hq
    have hi : i < 1 + r := by have := get_lt hd; rw [range_len] at this; exact this
    refine ⟨_, rfl, rfl, pick_s T (ds := pl.map D.str) rfl (by rw [List.length_map]; exact hp) (by rw [List.length_map]; omega) fun x hx => ?_⟩
    obtain ⟨s, hs, rfl⟩ := List.mem_map.mp hx
    refine in_lstS (ns := chosen) ?_
    by_cases hc : s ∈ chosen
    · refine wF (nT hc) (hq.nx _ ⟨chosen, _, _, rfl, nd, sub, by omega, fun _ e => ?_⟩)
      rw [e] at hc
      cases hc
    · refine wT (nF hc) ⟨by rw [List.length_map, sizeLine_eq]; omega, hq.nx _ ⟨chosen ++ [s], _, _, by rw [List.map_append]; rfl, ?_, ?_, by rw [List.length_append]; show chosen.length + 1 ≤ i + 1; omega, by simp⟩⟩
      · rw [List.nodup_append]
        refine ⟨nd, by simp, fun a ha b hb e => ?_⟩
        rw [List.mem_singleton.mp hb] at e
        rw [e] at ha
        exact hc ha
      · intro x hx
        rcases List.mem_append.mp hx with hx | hx
        · exact sub x hx
        · rw [List.mem_singleton.mp hx]; exact hs
  · rintro e ⟨chosen, x5, x6, rfl, nd, sub, cl, cn⟩
    rw [range_len] at cl cn
    exact main r hr chosen _ _ nd sub (by omega) (cn (by omega))
end
end K09
set_option maxRecDepth 100000
set_option maxHeartbeats 4000000
namespace K09
open PySem PySem.Spec PyProof.Rows L2 Pre Pd

section
variable {P : Program} {w : World} {K : PySem.W.Frag} {mg : Str → Option Value} {base : Heap} (T : Tx K mg) {Q : D → Prop} {R : Err → Prop}
theorem var_ok {i : Nat} {env : En} {d : D} {P' : D → Prop} (h : env[i]? = some (.v d)) (q : P' d) : wVar i env P' R := by
  unfold wVar
  rw [h]
  exact q
theorem wipe10 {env : En} {k : Nat} (hk : k ≠ 10) : (wipeE env [10])[k]? = env[k]? := wipeE_out (by simpa using hk)
theorem sel_ne {k : Nat} {env : En} {pl : List Str} {x : Str} {P' : List D → Prop} (he : 10 < env.length) (hx : env[k]? = some (.v (.str x))) (hk : k ≠ 10) (hpl : pl.length ≤ 1000) (ok : ∀ s ∈ pl, isName s = true) (okx : isName x = true)
    (q : P' ((pl.filter (fun s => !(s == x))).map D.str)) : wLc [10] (sName 10) (wOpB (φEqU true) (wVar 10) (wVar k)) (wVar 10) (pl.map D.str) [] env P' R := by
  refine lc_sel (fun d => match d with | .str s => !(s == x) | _ => false) id (small _ (by rw [List.length_map]; omega)) (fun d hd => ?_) ?_
  · obtain ⟨s, hs, rfl⟩ := List.mem_map.mp hd
    have hl : 10 < (wipeE env [10]).length := by
      show 10 < ((wipeE env []).set 10 .no).length
      rw [List.length_set]
      exact he
    have a1 : ((wipeE env [10]).set 10 (.v (.str s)))[10]? = some (.v (.str s)) := List.getElem?_set_self hl
    have a2 : ((wipeE env [10]).set 10 (.v (.str s)))[k]? = some (.v (.str x)) := by rw [List.getElem?_set_ne (Ne.symm hk), wipe10 hk, hx]
    refine ⟨_, rfl, fun Q' hq => var_ok a1 (var_ok a2 (eq_ok (okD_str (ok s hs)) (okD_str okx) leR leR hq)), fun _ Q' hq => var_ok a1 hq⟩
  · have e : ((pl.map D.str).filter (fun d => match d with | .str s => !(s == x) | _ => false)).map id = (pl.filter (fun s => !(s == x))).map D.str := by
      rw [List.map_id, List.filter_map]
      rfl
    rw [e]
    exact q
theorem sel_pairs {k : Nat} {env : En} {h : Hpx} {x : Str} {P' : List D → Prop} (he : 11 < env.length) (hx : env[k]? = some (.v (.str x))) (hk : k < 10) (hpl : h.length ≤ 1000) (ok : ∀ p ∈ h, isName p.1 = true) (okx : isName x = true)
    (q : P' (((h.map (·.1)).filter (fun s => !(s == x))).map D.str)) : wLc [10, 11] (sTup 2 (sCons (sName 10) (sCons (sName 11) sNil))) (wOpB (φEqU true) (wVar 10) (wVar k)) (wVar 10) (h.map pairD) [] env P' R := by
  refine lc_sel (fun d => match d with | .tup [.str s, _] => !(s == x) | _ => false) (fun d => match d with | .tup (y :: _) => y | y => y) (small _ (by rw [List.length_map]; omega)) (fun d hd => ?_) ?_
  · obtain ⟨p, hp, rfl⟩ := List.mem_map.mp hd
    have hl : (wipeE env [10, 11]).length = env.length := by
      show (((wipeE env []).set 11 .no).set 10 .no).length = _
      rw [List.length_set, List.length_set]
      rfl
    have a1 : (((wipeE env [10, 11]).set 10 (.v (.str p.1))).set 11 (.v (.int p.2)))[10]? = some (.v (.str p.1)) := by
      rw [List.getElem?_set_ne (by decide)]
      exact List.getElem?_set_self (by rw [hl]; omega)
    have a2 : (((wipeE env [10, 11]).set 10 (.v (.str p.1))).set 11 (.v (.int p.2)))[k]? = some (.v (.str x)) := by
      rw [List.getElem?_set_ne (by omega), List.getElem?_set_ne (by omega), wipeE_out (by simp; omega), hx]
    refine ⟨_, rfl, fun Q' hq => var_ok a1 (var_ok a2 (eq_ok (okD_str (ok p hp)) (okD_str okx) leR leR hq)), fun _ Q' hq => var_ok a1 hq⟩
  · have e : ((h.map pairD).filter (fun d => match d with | .tup [.str s, _] => !(s == x) | _ => false)).map (fun d => match d with | .tup (y :: _) => y | y => y) = ((h.map (·.1)).filter (fun s => !(s == x))).map D.str := by
      rw [List.filter_map, List.filter_map, List.map_map, List.map_map]
      rfl
    rw [e]
    exact q
theorem py_heap {h : Hpx} (g : ∀ p ∈ h, isName p.1 = true) : py (heapD h) = .tuple (h.map fun p => .tuple [.str p.1, .int p.2]) := by
  have e := py_tup (ds := h.map pairD) (okD_heap g)
  show py (.tup (h.map pairD)) = _
  rw [e, List.map_map]
  congr 1
theorem alike_heaps : ∀ (h h' : Hpx), PySem.W.alikeAll (h.map fun p => .tuple [.str p.1, .int p.2]) (h'.map fun p => .tuple [.str p.1, .int p.2]) = true
  | [], _ => by simp [PySem.W.alikeAll]
  | _ :: _, [] => by simp [PySem.W.alikeAll]
  | p :: h, p' :: h' => by simp [PySem.W.alikeAll, PySem.W.alike, alike_heaps h h']
structure NmSt (t : Stx) : Prop where
  nm : isName t.1 = true
  h1 : ∀ p ∈ t.2.1, isName p.1 = true
  h2 : ∀ p ∈ t.2.2, isName p.1 = true
theorem okD_step {t : Stx} (g : NmSt t) : okD (stepD t) = true := by
  show okA [.str t.1, heapD t.2.1, heapD t.2.2] = true
  simp only [okA, Bool.and_true, Bool.and_eq_true]
  exact ⟨okD_str g.nm, okD_heap g.h1, okD_heap g.h2⟩
theorem py_step {t : Stx} (g : NmSt t) : py (stepD t) = .tuple [.str t.1, py (heapD t.2.1), py (heapD t.2.2)] := py_tup (ds := [.str t.1, heapD t.2.1, heapD t.2.2]) (okD_step g)
theorem ltD_step {a b : Stx} (ga : NmSt a) (gb : NmSt b) (h : a.1 ≠ b.1) : ltD (stepD a) (stepD b) = sLt a.1 b.1 := by
  unfold ltD
  rw [py_step ga, py_step gb, PySem.W.dataLt_tuple, PySem.W.dataLt_all_no (by simp [PySem.W.alike]) (by simpa [PyData.eqv] using h), PySem.W.dataLt_str]
  rfl
theorem sortOk_steps {ts : List Stx} (g : ∀ t ∈ ts, NmSt t) : sortOk (ts.map stepD) := by
  refine ⟨fun d hd => ?_, fun a ha b hb => ?_, .inl fun d hd => ?_⟩
  · obtain ⟨t, ht, rfl⟩ := List.mem_map.mp hd
    obtain ⟨h1, h2, h3⟩ := toPy_ok (stepD t) (okD_step (g t ht))
    refine ⟨_, h1, ?_⟩
    rw [h3]
    have d1 := dep_heap t.2.1
    have d2 := dep_heap t.2.2
    show max 0 (max (dep (heapD t.2.1)) (max (dep (heapD t.2.2)) 0)) + 1 ≤ 60
    omega
  · obtain ⟨x, hx, rfl⟩ := List.mem_map.mp ha
    obtain ⟨y, hy, rfl⟩ := List.mem_map.mp hb
    obtain ⟨s, hs, rfl⟩ := List.mem_map.mp hx
    obtain ⟨t, ht, rfl⟩ := List.mem_map.mp hy
    rw [py_step (g s hs), py_step (g t ht), py_heap (g s hs).h1, py_heap (g s hs).h2, py_heap (g t ht).h1, py_heap (g t ht).h2]
    simp [PySem.W.alike, PySem.W.alikeAll, alike_heaps]
  · obtain ⟨x, hx, rfl⟩ := List.mem_map.mp hd
    obtain ⟨s, hs, rfl⟩ := List.mem_map.mp hx
    rw [py_step (g s hs)]
    exact ⟨_, _, rfl⟩
end
end K09
set_option maxRecDepth 100000
set_option maxHeartbeats 4000000
namespace K09
open PySem PySem.Spec PyProof.Rows L2 Pre Pd

section
variable {P : Program} {w : World} {K : PySem.W.Frag} {mg : Str → Option Value} {base : Heap} (T : Tx K mg) {Q : D → Prop} {R : Err → Prop}
theorem drawn_good {pl pl' : List Str} {n : Nat} {h : Hpx} (d : DrawnH pl n h) (hn : n ≤ 9) (sub : ∀ s ∈ pl, s ∈ pl') (nm : ∀ s ∈ pl', isName s = true) : GoodS pl' h where
  nm := fun p hp => nm _ (sub _ (d.each p hp).1)
  ct := fun p hp => (d.each p hp).2.1
  asc := d.asc
  len := by have := d.len; omega
  ne := d.ne
  inn := fun p hp => ⟨sub _ (d.each p hp).1, by have := (d.each p hp).2.2; omega⟩
theorem asc_nodup {ns : List Str} (h : Asc ns) : ns.Nodup := by
  rw [List.nodup_iff_pairwise_ne]
  refine h.imp fun {a b} q e => ?_
  rw [e, sLt_irrefl] at q
  cases q
theorem pick_nat {l : List Nat} {ds : List D} (hd : ds = l.map fun n : Nat => D.int (n : Int)) (h1 : 1 ≤ l.length) (h2 : l.length ≤ 100) (q : ∀ n ∈ l, Q (.int (n : Int))) : F_law_pick T [dBox, .lst ds] Q R := by
  refine pick_s T (ds := ds) rfl (by rw [hd, List.length_map]; exact h1) (by rw [hd, List.length_map]; omega) fun x hx => ?_
  rw [hd] at hx
  obtain ⟨n, hn, rfl⟩ := List.mem_map.mp hx
  exact q n hn
theorem pick_str {l : List Str} (h1 : l ≠ []) (h2 : l.length ≤ 1000) (q : ∀ s ∈ l, Q (.str s)) : F_law_pick T [dBox, .lst (l.map D.str)] Q R := by
  have hp : 1 ≤ l.length := by
    cases l with
    | nil => exact absurd rfl h1
    | cons _ _ => simp
  refine pick_s T (ds := l.map D.str) rfl (by rw [List.length_map]; exact hp) (by rw [List.length_map]; omega) fun x hx => ?_
  obtain ⟨n, hn, rfl⟩ := List.mem_map.mp hx
  exact q n hn
theorem mem_ne {pl : List Str} {x s : Str} : s ∈ pl.filter (fun s => !(s == x)) ↔ s ∈ pl ∧ s ≠ x := by
  rw [List.mem_filter]
  simp
theorem plan_s (q : ∀ p : Pln, GoodP p → p.ts.length ≤ 14 → p.pl.length ≤ 20 → Q (.tup [.tup (p.pl.map D.str), stepsD p.ts, .str p.st, .str p.en])) : F_law_plan T [dBox] Q R := by
  unfold F_law_plan Fr_law_plan
  refine ⟨rfl, take_s T (by decide) (by decide) fun r hr => ⟨rfl, ?_⟩⟩
  refine names_s T (many := 2 + r) (by omega) fun pl hl hn ha => ?_
  have plne : pl ≠ [] := by
    intro e
    rw [e] at hl
    simp at hl
    omega
  have nd := asc_nodup ha
  refine ⟨rfl, pick_str T plne (by omega) fun st hst => ?_⟩
  have two : ∀ x ∈ pl, ∃ y ∈ pl, y ≠ x := by
    intro x hx
    match pl, hl, nd with
    | [], hl, _ => simp at hl; omega
    | [a], hl, _ => simp at hl; omega
    | a :: b :: t, hl, nd =>
      by_cases e : a = x
      · refine ⟨b, by simp, fun e2 => ?_⟩
        rw [← e2] at e
        rw [e] at nd
        simp at nd
      · exact ⟨a, by simp, e⟩
  have fne : ∀ x ∈ pl, pl.filter (fun s => !(s == x)) ≠ [] := by
    intro x hx e
    obtain ⟨y, hy, ne⟩ := two x hx
    have : y ∈ pl.filter (fun s => !(s == x)) := mem_ne.mpr ⟨hy, ne⟩
    rw [e] at this
    cases this
  have flen : ∀ x, (pl.filter (fun s => !(s == x))).length ≤ 20 := fun x => Nat.le_trans (List.length_filter_le _ _) (by omega)
  refine sel_ne (k := 2) (x := st) leR rfl (by decide) (by omega) hn (hn st hst) ⟨rfl, pick_str T (fne st hst) (by have := flen st; omega) fun en hen => ?_⟩
  obtain ⟨hen, ne⟩ := mem_ne.mp hen
  refine sel_ne (k := 3) (x := en) leR rfl (by decide) (by omega) hn (hn en hen) ⟨small 1, small 0, ?_⟩
  refine for_go (fun ds => ∃ ms : List Str, ds = ms.map D.str ∧ ms.Nodup ∧ (∀ s ∈ ms, isName s = true) ∧ ms.length ≤ 14) (by
    refine fun Q' R' k => ⟨small 10, rfl, pick_nat T (l := [0, 1, 2, 3, 4, 5, 6, 8, 10, 14]) rfl (by decide) (by decide) fun n hn => ⟨rfl, names_s T (many := n) (by
      simp only [List.mem_cons, List.not_mem_nil, or_false] at hn
      omega) fun ns nl nn na => ⟨rfl, mixed_s T (by rw [List.length_map, nl]; simp only [List.mem_cons, List.not_mem_nil, or_false] at hn; omega) fun ys hp => k _ ?_⟩⟩⟩
    obtain ⟨ms, h1, h2⟩ := perm_map hp
    refine ⟨ms, h2.symm, h1.nodup_iff.mpr (asc_nodup na), fun s hs => nn s (h1.mem_iff.mp hs), ?_⟩
    rw [h1.length_eq, nl]
    simp only [List.mem_cons, List.not_mem_nil, or_false] at hn
    omega) ?_
  rintro ds ⟨ms, rfl, mnd, mn, ml⟩
  refine loop0 (fun i e => ∃ (come : List Str) (ts : List Stx) (x7 x8 x9 x10 x11 : Sl), e = [.v dBox, .v (.lst (pl.map D.str)), .v (.str st), .v (.str en), .v (.lst ((pl.filter (fun s => !(s == en))).map D.str)), .v (.lst (come.map D.str)), .l (ts.map stepD), x7, x8, x9, x10, x11] ∧
    come ≠ [] ∧ (∀ s ∈ come, s ∈ pl ∧ s ≠ en) ∧ come.length ≤ 1 + 20 * i ∧ ts.map (·.1) = ms.take i ∧ ∀ t ∈ ts, GoodSt pl st en t) ⟨[st], [], _, _, _, _, _, rfl, by simp, ?_, by simp, by simp, by simp⟩ ?_ ?_
  · intro s hs
    rw [List.mem_singleton.mp hs]
    exact ⟨hst, Ne.symm ne⟩
  · rintro i d e0 Q' hd ⟨come, ts, x7, x8, x9, x10, x11, rfl, cne, csub, clen, tnm, tgood⟩ hq
    obtain ⟨nm, hnm, rfl⟩ := map_str_at hd
    have hi : i < 14 := by have := get_lt hnm; omega
    have l14 : ∀ n ∈ [1, 1, 2, 4], 1 ≤ n ∧ n ≤ 20 := by decide
    have l19 : ∀ n ∈ [1, 1, 2, 9], 1 ≤ n ∧ n ≤ 9 := by decide
    have l25 : ∀ n ∈ [1, 2, 2, 5], 1 ≤ n ∧ n ≤ 20 := by decide
    have l29 : ∀ n ∈ [1, 2, 2, 9], 1 ≤ n ∧ n ≤ 9 := by decide
    refine ⟨_, rfl, small 2, rfl, take_s T (by decide) (by decide) fun r5 hr5 => eq_ok rfl rfl leR leR (ixl2 fun z hz => ?_)⟩
    obtain ⟨pl', rfl, ne', sub', len'⟩ : ∃ pl' : List Str, z = .lst (pl'.map D.str) ∧ pl' ≠ [] ∧ (∀ s ∈ pl', s ∈ pl ∧ s ≠ en) ∧ pl'.length ≤ 1000 := by
      rcases hz with rfl | rfl
      · exact ⟨come, rfl, cne, csub, by omega⟩
      · exact ⟨_, rfl, fne en hen, fun s hs => mem_ne.mp hs, by have := flen en; omega⟩
    refine ⟨small 4, rfl, pick_nat T (l := [1, 1, 2, 4]) rfl (by decide) (by decide) fun m1 hm1 => ⟨small 4, rfl, pick_nat T (l := [1, 1, 2, 9]) rfl (by decide) (by decide) fun g1 hg1 => ⟨rfl, ?_⟩⟩⟩
    refine heap_s T ne' len' (l14 _ hm1).1 (l14 _ hm1).2 (l19 _ hg1).1 (by have := (l19 _ hg1).2; omega) fun h1 d1 => ?_
    refine sel_ne (k := 2) (x := st) leR rfl (by decide) (by omega) hn (hn st hst) ⟨small 4, rfl, pick_nat T (l := [1, 2, 2, 5]) rfl (by decide) (by decide) fun m2 hm2 => ⟨small 4, rfl, pick_nat T (l := [1, 2, 2, 9]) rfl (by decide) (by decide) fun g2 hg2 => ⟨rfl, ?_⟩⟩⟩
    refine heap_s T (fne st hst) (by have := flen st; omega) (l25 _ hm2).1 (l25 _ hm2).2 (l29 _ hg2).1 (by have := (l29 _ hg2).2; omega) fun h2 d2 => ?_
    have G1 : GoodS pl h1 := drawn_good d1 (l19 _ hg1).2 (fun s hs => (sub' s hs).1) hn
    have G2 : GoodS pl h2 := drawn_good d2 (l29 _ hg2).2 (fun s hs => (mem_ne.mp hs).1) hn
    refine sel_pairs (k := 3) (x := en) leR rfl (by decide) (by have := d2.len; omega) G2.nm (hn en hen) ⟨?_, small 3, ?_, ?_⟩
    · refine small _ ?_
      rw [List.length_map, List.length_map]
      have := List.length_filter_le (fun s => !(s == en)) (h2.map (·.1))
      rw [List.length_map] at this
      have := d2.len
      omega
    · rw [List.length_map, sizeLine_eq]
      have : ts.length = (ms.take i).length := by rw [← List.length_map (f := fun t : Stx => t.1), tnm]
      rw [List.length_take] at this
      omega
    · refine hq.nx _ ⟨come ++ (h2.map (·.1)).filter (fun s => !(s == en)), ts ++ [(nm, h1, h2)], _, _, _, _, _, by rw [List.map_append, List.map_append]; rfl, ?_, ?_, ?_, ?_, ?_⟩
      · intro e
        exact cne (List.append_eq_nil_iff.mp e).1
      · intro s hs
        rcases List.mem_append.mp hs with hs | hs
        · exact csub s hs
        · rw [List.mem_filter] at hs
          obtain ⟨p, hp, rfl⟩ := List.mem_map.mp hs.1
          exact ⟨(G2.inn p hp).1, by simpa using hs.2⟩
      · have := List.length_filter_le (fun s => !(s == en)) (h2.map (·.1))
        rw [List.length_map] at this
        have := d2.len
        rw [List.length_append]
        omega
      · rw [List.map_append, tnm, List.take_add_one, hnm]
        rfl
      · intro t ht
        rcases List.mem_append.mp ht with ht | ht
        · exact tgood t ht
        · rw [List.mem_singleton.mp ht]
          exact ⟨mn nm (List.mem_of_getElem? hnm), G1, G2, fun p hp => (sub' _ (d1.each p hp).1).2, fun p hp => (mem_ne.mp (d2.each p hp).1).2⟩
  · rintro e ⟨come, ts, x7, x8, x9, x10, x11, rfl, cne, csub, clen, tnm, tgood⟩
    rw [List.length_map, List.take_length] at tnm
    have hnms : ∀ t ∈ ts, NmSt t := fun t ht => ⟨(tgood t ht).nm, (tgood t ht).tk.nm, (tgood t ht).ly.nm⟩
    refine sorted_by_mem stepD (fun t : Stx => t.1) (fun a ha b hb h => ltD_step (hnms a ha) (hnms b hb) h) (by rw [tnm]; exact mnd) (sortOk_steps hnms) fun ys h1 h2 => ⟨small 4, ?_⟩
    refine q ⟨pl, ys, st, en⟩ ⟨hn, ha, hst, hen, Ne.symm ne, fun t ht => tgood t (h1.mem_iff.mp ht), h2⟩ ?_ (by show pl.length ≤ 20; omega)
    show ys.length ≤ 14
    have : ts.length = ms.length := by rw [← List.length_map (f := fun t : Stx => t.1), tnm]
    rw [h1.length_eq]
    omega
end
end K09
set_option maxRecDepth 100000
set_option maxHeartbeats 4000000
namespace K09
open PySem PySem.Spec PyProof.Rows L2 Pre Pd

section
variable {P : Program} {w : World} {K : PySem.W.Frag} {mg : Str → Option Value} {base : Heap} (T : Tx K mg) {Q : D → Prop} {R : Err → Prop}
theorem times_s (q : ∀ n : Nat, 1 ≤ n → n ≤ 10 ^ 12 → Q (.int n)) : F_law_times T [dBox] Q R := by
  unfold F_law_times Fr_law_times
  refine ⟨rfl, take_s T (by decide) (by decide) fun r hr => ⟨⟨by decide, by decide, by decide⟩, rfl, take_s T (by decide) (by decide) fun t ht => ⟨⟨by decide, by decide, by decide⟩, small 5, rfl, ?_⟩⟩⟩
  refine pick_nat T (l := [1, 2, 1 + r, 1 + t, 10 ^ 12]) rfl (by simp) (by simp) fun n hn => ?_
  have ht : t < 10 ^ 12 := by
    have h : (t : Int) < (10 : Int) ^ (12 : Int).toNat := ht
    have e : ((10 : Int) ^ (12 : Int).toNat) = ((10 ^ 12 : Nat) : Int) := by decide
    rw [e] at h
    omega
  simp only [List.mem_cons, List.not_mem_nil, or_false] at hn
  refine q n ?_ ?_ <;> omega
theorem ixlB {b : Bool} {x y : D} (h1 : b = true → Q y) (h0 : b = false → Q x) : φIxU (.lst [x, y]) (.int (if b = true then 1 else 0)) Q := by
  cases b with
  | true => exact ixl 1 rfl (h1 rfl)
  | false => exact ixl 0 rfl (h0 rfl)
theorem okA_names {ns : List Str} (nm : ∀ s ∈ ns, isName s = true) : okA (ns.map D.str) = true := okA_all fun d hd => by
  obtain ⟨s, hs, rfl⟩ := List.mem_map.mp hd
  exact okD_str (nm s hs)
theorem depA_names (ns : List Str) : depA (ns.map D.str) = 0 := Nat.le_zero.mp (depA_all fun d hd => by
  obtain ⟨s, hs, rfl⟩ := List.mem_map.mp hd
  exact Nat.le_refl 0)
theorem okA_pairs {h : Hpx} (nm : ∀ p ∈ h, isName p.1 = true) : okA (h.map pairD) = true := okD_heap nm
theorem depA_pairs (h : Hpx) : depA (h.map pairD) ≤ 1 := depA_all fun d hd => by
  obtain ⟨p, hp, rfl⟩ := List.mem_map.mp hd
  exact Nat.le_refl 1
/-- a drawn run -/
structure DrawnR (names : List Str) (run : Hpx) : Prop where
  each : ∀ p ∈ run, p.1 ∈ names ∧ 1 ≤ p.2 ∧ p.2 ≤ 10 ^ 12
  len : run.length ≤ 200
theorem run_s {names : List Str} (hn : names.length ≤ 100) (nm : ∀ s ∈ names, isName s = true) (q : ∀ run : Hpx, DrawnR names run → Q (heapD run)) : F_law_run T [dBox, .lst (names.map D.str)] Q R := by
  unfold F_law_run Fr_law_run
  refine ⟨small 0, ?_⟩
  refine for_go (fun ds => ∃ r : Nat, r ≤ 200 ∧ (names = [] → r = 0) ∧ ds = rangeD 0 r) (by
    refine fun Q' R' k => ⟨small 8, rfl, pick_nat T (l := [0, 1, 2, 5, 9, 13, 30, 200]) rfl (by decide) (by decide) fun n hn => ⟨small 2, small 0, eq_ok (okA_names nm) rfl (by show depA _ + 1 ≤ 64; rw [depA_names]; decide) leR ?_⟩⟩
    refine ixlB (fun hb => ⟨⟨by omega, by
      simp only [List.mem_cons, List.not_mem_nil, or_false] at hn
      omega⟩, k _ ⟨n, by simp only [List.mem_cons, List.not_mem_nil, or_false] at hn; omega, fun e => ?_, rfl⟩⟩) (fun hb => ⟨⟨by decide, by decide⟩, k _ ⟨0, by decide, fun _ => rfl, rfl⟩⟩)
    subst e
    cases hb) ?_
  rintro ds ⟨r, hr, h0, rfl⟩
  refine loop0 (fun i e => ∃ (found : Hpx) (x3 x4 : Sl), e = [.v dBox, .v (.lst (names.map D.str)), .l (found.map pairD), x3, x4] ∧ found.length = i ∧ ∀ p ∈ found, p.1 ∈ names ∧ 1 ≤ p.2 ∧ p.2 ≤ 10 ^ 12) ⟨[], _, _, rfl, rfl, by simp⟩ ?_ ?_
  · rintro i d e0 Q' hd ⟨found, x3, x4, rfl, hl, hf⟩ hq
    have hi : i < r := by have := get_lt hd; rw [range_len] at this; exact this
    have ne : names ≠ [] := fun e => by have := h0 e; omega
    have fnm : ∀ p ∈ found, isName p.1 = true := fun p hp => nm _ (hf p hp).1
    refine ⟨_, rfl, rfl, pick_str T ne (by omega) fun s hs => ?_⟩
    have tail : ∀ (s : Str) (x3 : Sl), s ∈ names → wApp' 2 (wTup (wCons (wVar 4) (wCons (wCall 1 (F_law_times T) (wCons (wVar 0) wNil)) wNil))) [.v dBox, .v (.lst (names.map D.str)), .l (found.map pairD), x3, .v (.str s)] Q' := by
      intro s x3 hs
      refine ⟨rfl, times_s T fun n n1 n2 => ⟨small 2, by rw [List.length_map, sizeLine_eq]; omega, hq.nx _ ⟨found ++ [(s, (n : Int))], _, _, by rw [List.map_append]; rfl, by rw [List.length_append, hl]; rfl, fun p hp => ?_⟩⟩⟩
      rcases List.mem_append.mp hp with hp | hp
      · exact hf p hp
      · rw [List.mem_singleton.mp hp]
        exact ⟨hs, by show (1 : Int) ≤ n; omega, by show (n : Int) ≤ 10 ^ 12; omega⟩
    refine ⟨small 0, eq_ok (okA_pairs fnm) rfl (by show depA _ + 1 ≤ 64; have := depA_pairs found; omega) leR ?_⟩
    refine wTF (fun hb => ⟨rfl, take_s T (by decide) (by decide) fun r3 hr3 => eq_ok rfl rfl leR leR (wTF (fun h3 => ?_) (fun h3 => tail s _ hs))⟩) (fun hb => wF rfl (tail s _ hs))
    cases hg : found.getLast? with
    | none =>
      rw [List.getLast?_eq_none_iff] at hg
      subst hg
      cases hb
    | some p =>
      have hm : p ∈ found := List.mem_of_getLast? hg
      refine ixl_last (d := pairD p) (by rw [List.getLast?_map, hg]; rfl) (ixt 0 rfl ⟨rfl, tail p.1 _ (hf p hm).1⟩)
  · rintro e ⟨found, x3, x4, rfl, hl, hf⟩
    rw [range_len] at hl
    exact q found ⟨hf, by omega⟩
end
end K09
set_option maxRecDepth 100000
set_option maxHeartbeats 4000000
namespace K09
open PySem PySem.Spec PyProof.Rows L2 Pre Pd

section
variable {P : Program} {w : World} {K : PySem.W.Frag} {mg : Str → Option Value} {base : Heap} (T : Tx K mg) {Q : D → Prop} {R : Err → Prop}
def fstD : D → D
  | .tup (x :: _) => x
  | y => y
theorem names_of_s {p : Pln} (hl : p.ts.length ≤ 1000) (q : Q (.tup ((p.ts.map (·.1)).map D.str))) : F_names_of T [planD T p] Q R := by
  unfold F_names_of Fr_names_of
  refine ⟨by simp [Tx.objs], ?_⟩
  refine lc_map fstD (small _ (by rw [List.length_map]; omega)) (fun d hd Q hq => ?_) ?_
  · obtain ⟨t, ht, rfl⟩ := List.mem_map.mp hd
    exact ⟨_, rfl, ixt 0 rfl hq⟩
  · have e : (p.ts.map stepD).map fstD = (p.ts.map (·.1)).map D.str := by
      rw [List.map_map, List.map_map]
      rfl
    rw [e]
    exact q
def rowOk (names : List Str) : D → Bool
  | .tup [.str s, c] => decide (s ∈ names) && isCount c
  | _ => false
theorem rowOk_pair {names : List Str} {d : D} (h : rowOk names d = true) : ∃ s c, d = .tup [.str s, c] := by
  unfold rowOk at h
  split at h
  · exact ⟨_, _, rfl⟩
  · cases h
def knRow (d : D) : Prop := kn T d = true ∧ ∀ x y, d = .tup [x, y] → kn T x = true ∧ kn T y = true
theorem row_s {p : Pln} {rows : List D} (hl : p.ts.length ≤ 1000) (hk : ∀ d ∈ rows, knRow T d) (q : Q (match rows.findIdx? (fun d => !rowOk (p.ts.map (·.1)) d) with | some i => .int (i : Int) | none => .non)) : F_first_wrong_row T [planD T p, .tup rows] Q R := by
  unfold F_first_wrong_row Fr_first_wrong_row
  refine isi_ok T rfl (wF rfl ⟨rfl, names_of_s T hl ?_⟩)
  refine for_inv (enumD 0 rows) (by exact fun Q R q => q) (fun i e => (∃ a b, e = [.v (planD T p), .v (.tup rows), .v (.tup ((p.ts.map (·.1)).map D.str)), a, b]) ∧ ∀ d ∈ rows.take i, rowOk (p.ts.map (·.1)) d = true) ⟨⟨_, _, rfl⟩, by simp⟩ ?_ ?_
  · rintro i d e0 Q' hd ⟨⟨a, b, rfl⟩, hb⟩ hq
    obtain ⟨x, hx, rfl⟩ := enum_at hd
    have hm := List.mem_of_getElem? hx
    obtain ⟨k1, k2⟩ := hk x hm
    have bad : rowOk (p.ts.map (·.1)) x = false → Q' (.rt (.int (i : Int))) := fun hr => by
      refine hq.rt _ ?_
      have e : rows.findIdx? (fun d => !rowOk (p.ts.map (·.1)) d) = some i := by
        rw [List.findIdx?_eq_some_iff_getElem]
        obtain ⟨h1, e1⟩ := List.getElem?_eq_some_iff.mp hx
        refine ⟨h1, by rw [e1, hr]; rfl, fun j hj => ?_⟩
        rw [hb rows[j] (by
          rw [List.mem_take_iff_getElem]
          exact ⟨j, by omega, rfl⟩)]
        decide
      rw [e] at q
      exact q
    have good : rowOk (p.ts.map (·.1)) x = true → ∀ a b, Q' (.nx [.v (planD T p), .v (.tup rows), .v (.tup ((p.ts.map (·.1)).map D.str)), a, b]) := fun hr a b => by
      refine hq.nx _ ⟨⟨a, b, rfl⟩, fun z hz => ?_⟩
      rw [List.take_add_one, hx] at hz
      rcases List.mem_append.mp hz with hz | hz
      · exact hb z hz
      · have : z = x := by simpa using hz
        rw [this]
        exact hr
    refine ⟨_, rfl, rfl, is_pair_s T k1 ?_⟩
    cases hp : isPairD x with
    | false =>
      refine wT rfl (bad ?_)
      cases hr : rowOk (p.ts.map (·.1)) x with
      | false => rfl
      | true =>
        obtain ⟨s, c, rfl⟩ := rowOk_pair hr
        cases hp
    | true =>
      obtain ⟨u, v, rfl⟩ : ∃ u v, x = .tup [u, v] := by
        cases x <;> first | (cases hp; done) | skip
        rename_i ds
        match ds, hp with
        | [u, v], _ => exact ⟨u, v, rfl⟩
        | [], hp => cases hp
        | [_], hp => cases hp
        | _ :: _ :: _ :: _, hp => simp [isPairD] at hp
      obtain ⟨ku, kv⟩ := k2 u v rfl
      refine wF rfl (ixt 0 rfl (isi_ok T ku ?_))
      cases hs : isKd .str u with
      | false =>
        refine wT rfl (bad ?_)
        cases u <;> first | rfl | (cases hs; done)
      | true =>
        obtain ⟨s, rfl⟩ : ∃ s, u = .str s := by cases u <;> first | (cases hs; done) | exact ⟨_, rfl⟩
        refine wF rfl (ixt 0 rfl (in_tupS ?_))
        by_cases hin : s ∈ p.ts.map (·.1)
        · refine wF (nT hin) (ixt 1 rfl ⟨rfl, is_count_s T kv ?_⟩)
          cases hc : isCount v with
          | true => exact wF rfl (good (by show (decide _ && isCount v) = true; rw [decide_eq_true hin, hc]; rfl) _ _)
          | false => exact wT rfl (bad (by show (decide _ && isCount v) = false; rw [hc, Bool.and_false]))
        · exact wT (nF hin) (bad (by show (decide _ && isCount v) = false; rw [decide_eq_false hin, Bool.false_and]))
  · rintro e ⟨⟨a, b, rfl⟩, hb⟩
    have hlen : (enumD 0 rows).length = rows.length := enumD_len rows 0
    rw [hlen, List.take_length] at hb
    have e : rows.findIdx? (fun d => !rowOk (p.ts.map (·.1)) d) = none := by
      rw [List.findIdx?_eq_none_iff]
      intro x hx
      rw [hb x hx]
      rfl
    rw [e] at q
    exact q
theorem row_not {p : Pln} {v : D} (h : kn T v = true) (hv : isKd .tuple v = false) (q : Q (.int (-1))) : F_first_wrong_row T [planD T p, v] Q R := by
  unfold F_first_wrong_row Fr_first_wrong_row
  refine isi_ok T h ?_
  rw [hv]
  exact wT rfl q
end
end K09
set_option maxRecDepth 100000
set_option maxHeartbeats 4000000
namespace K09
open PySem PySem.Spec PyProof.Rows L2 Pre Pd
section
variable {P : Program} {w : World} {K : PySem.W.Frag} {mg : Str → Option Value} {base : Heap} (T : Tx K mg) {Q : D → Prop} {R : Err → Prop}
theorem need_good {p : Pln} {rows : List D} (hl : p.ts.length ≤ 1000) (hk : ∀ d ∈ rows, knRow T d) (h : ∀ d ∈ rows, rowOk (p.ts.map (·.1)) d = true) (q : Q .non) : F_need_run T [planD T p, .tup rows] Q R := by
  unfold F_need_run Fr_need_run
  refine ⟨rfl, row_s T hl hk ?_⟩
  have e : rows.findIdx? (fun d => !rowOk (p.ts.map (·.1)) d) = none := by
    rw [List.findIdx?_eq_none_iff]
    intro x hx
    rw [h x hx]
    rfl
  rw [e]
  exact isN_non (wF rfl q)
theorem need_bad {p : Pln} {rows : List D} {i : Nat} (hl : p.ts.length ≤ 1000) (hk : ∀ d ∈ rows, knRow T d) (h : rows.findIdx? (fun d => !rowOk (p.ts.map (·.1)) d) = some i) (q : R (.fld T.InvalidRun ["at"] [.int (i : Int)])) : F_need_run T [planD T p, .tup rows] Q R := by
  unfold F_need_run Fr_need_run
  refine ⟨rfl, row_s T hl hk ?_⟩
  rw [h]
  exact isN_not rfl (wT rfl q)
theorem need_not {p : Pln} {v : D} (h : kn T v = true) (hv : isKd .tuple v = false) (q : R (.fld T.InvalidRun ["at"] [.int (-1)])) : F_need_run T [planD T p, v] Q R := by
  unfold F_need_run Fr_need_run
  refine ⟨rfl, row_not T h hv ?_⟩
  exact isN_not rfl (wT rfl q)
theorem said_good {p : Pln} {rows : List D} (hl : p.ts.length ≤ 1000) (hk : ∀ d ∈ rows, knRow T d) (h : ∀ d ∈ rows, rowOk (p.ts.map (·.1)) d = true) (q : Q (.tup [.str "let", .non])) : F_law_said T [planD T p, .tup rows] Q R := by
  unfold F_law_said Fr_law_said
  exact ⟨rfl, need_good T hl hk h ⟨small 2, q⟩⟩
theorem said_bad {p : Pln} {rows : List D} {i : Nat} (hl : p.ts.length ≤ 1000) (hk : ∀ d ∈ rows, knRow T d) (h : rows.findIdx? (fun d => !rowOk (p.ts.map (·.1)) d) = some i) (q : Q (.tup [.str "refused", .int (i : Int)])) : F_law_said T [planD T p, .tup rows] Q R := by
  unfold F_law_said Fr_law_said
  exact ⟨rfl, need_bad T hl hk h ⟨rfl, fun a => ⟨rfl, small 2, q⟩⟩⟩
theorem said_not {p : Pln} {v : D} (h : kn T v = true) (hv : isKd .tuple v = false) (q : Q (.tup [.str "refused", .int (-1)])) : F_law_said T [planD T p, v] Q R := by
  unfold F_law_said Fr_law_said
  exact ⟨rfl, need_not T h hv ⟨rfl, fun a => ⟨rfl, small 2, q⟩⟩⟩
/-! ### the law's own sameness: of a thing with itself -/
inductive Td : Nat → D → Prop
  | non {n} : Td n .non
  | bl {n} (b : Bool) : Td n (.bl b)
  | int {n} (i : Int) : Td n (.int i)
  | str {n} {s : Str} (h : PyData.strOk s = true) : Td n (.str s)
  | tup {n} {ds : List D} (h : ∀ d ∈ ds, Td n d) (hl : ds.length ≤ 100000) : Td (n + 1) (.tup ds)
theorem zip_self : ∀ ds : List D, zipD ds ds = ds.map fun d => .tup [d, d]
  | [] => rfl
  | d :: ds => by rw [zipD, zip_self ds, List.map_cons]
theorem same_n : ∀ (m : Nat) (x : D), Td m x → ∀ {Q : D → Prop} {R : Err → Prop}, Q (.bl true) → Fn_law_same T (m + 1) [x, x] Q R := by
  intro m
  induction m with
  | zero =>
    intro x h Q R q
    cases h with
    | non => exact isN_non (wT rfl (isN_non q))
    | bl b => exact isN_not rfl (wF rfl (isi_ok T rfl (wT rfl (isi_ok T rfl (wT rfl (eq_ok rfl rfl leR leR (by rw [eqD_refl rfl]; exact q)))))))
    | int i => exact isN_not rfl (wF rfl (isi_ok T rfl (wF rfl (isi_ok T rfl (wT rfl (isi_ok T rfl (wT rfl (isi_ok T rfl (wT rfl (eq_ok rfl rfl leR leR (by rw [eqD_refl rfl]; exact q)))))))))))
    | str h => exact isN_not rfl (wF rfl (isi_ok T rfl (wF rfl (isi_ok T rfl (wF rfl (isi_ok T rfl (wT rfl (isi_ok T rfl (wT rfl (eq_ok h h leR leR (by rw [eqD_refl (x := D.str _) (by simpa [okD] using h)]; exact q)))))))))))
  | succ m ih =>
    intro x h Q R q
    cases h with
    | non => exact isN_non (wT rfl (isN_non q))
    | bl b => exact isN_not rfl (wF rfl (isi_ok T rfl (wT rfl (isi_ok T rfl (wT rfl (eq_ok rfl rfl leR leR (by rw [eqD_refl rfl]; exact q)))))))
    | int i => exact isN_not rfl (wF rfl (isi_ok T rfl (wF rfl (isi_ok T rfl (wT rfl (isi_ok T rfl (wT rfl (isi_ok T rfl (wT rfl (eq_ok rfl rfl leR leR (by rw [eqD_refl rfl]; exact q)))))))))))
    | str h => exact isN_not rfl (wF rfl (isi_ok T rfl (wF rfl (isi_ok T rfl (wF rfl (isi_ok T rfl (wT rfl (isi_ok T rfl (wT rfl (eq_ok h h leR leR (by rw [eqD_refl (x := D.str _) (by simpa [okD] using h)]; exact q)))))))))))
    | tup h hl =>
      rename_i ds
      refine isN_not rfl (wF rfl (isi_ok T rfl (wF rfl (isi_ok T rfl (wF rfl (isi_ok T rfl (wF rfl (isi_ok T rfl (wT rfl (eq_ok rfl rfl leR leR ?_))))))))))
      rw [eqD_refl rfl]
      refine wT rfl ?_
      show wLc _ _ _ _ (zipD ds ds) _ _ _ _
      rw [zip_self]
      refine lc_map (fun _ => .bl true) (small _ (by rw [List.length_map]; omega)) (fun d hd Q' hq => ?_) ?_
      · obtain ⟨x, hx, rfl⟩ := List.mem_map.mp hd
        exact ⟨_, rfl, rfl, ih x (h x hx) hq⟩
      · refine all_ok (ds.map fun _ => true) (by simp) ?_
        have e2 : (ds.map fun _ => true).all id = true := by
          rw [List.all_map]
          exact List.all_eq_true.mpr fun _ _ => rfl
        rw [e2]
        exact q
theorem same_s {x : D} (h : Td 5 x) (q : Q (.bl true)) : F_law_same T [x, x] Q R := by
  unfold F_law_same
  exact same_n T 5 x h q
end
end K09
set_option maxRecDepth 100000
set_option maxHeartbeats 1000000
namespace K09
open PySem PySem.Spec PyProof.Rows L2 Pre Pd

section
variable {P : Program} {w : World} {K : PySem.W.Frag} {mg : Str → Option Value} {base : Heap} (T : Tx K mg) {Q : D → Prop} {R : Err → Prop}
theorem sub_len {α : Type} [DecidableEq α] : ∀ {l m : List α}, l.Nodup → (∀ x ∈ l, x ∈ m) → l.length ≤ m.length
  | [], m, _, _ => Nat.zero_le _
  | x :: l, m, nd, h => by
    rw [List.nodup_cons] at nd
    have hx : x ∈ m := h x List.mem_cons_self
    have := sub_len (l := l) (m := m.erase x) nd.2 fun y hy => by
      refine (List.mem_erase_of_ne ?_).mpr (h y (List.mem_cons_of_mem _ hy))
      intro e
      rw [e] at hy
      exact nd.1 hy
    rw [List.length_erase_of_mem hx] at this
    have hp := List.length_pos_of_mem hx
    rw [List.length_cons]
    omega
def lets : List Str := abc.cps.toList.map fun c => (⟨#[c]⟩ : Str)
theorem lets_nd : lets.Nodup := by decide +kernel
theorem lets_len : lets.length = 26 := by decide +kernel
theorem strange_go {z : Str} {L ns : List Str} {a b c : Sl} (hz : Pd.signs z = L.map D.str) (hl : L.length ≤ 1000) (q : Q (.lst ((L.filter fun s => !decide (s ∈ ns)).map D.str))) :
    wLV (wComp [3] (wWalk (wC (.str z))) (sName 3) (wOpB (φInU true) (wVar 3) (wVar 1)) (wVar 3)) [a, .v (.lst (ns.map D.str)), b, c] Q R := by
  show wLc [3] (sName 3) (wOpB (φInU true) (wVar 3) (wVar 1)) (wVar 3) (Pd.signs z) [] [a, .v (.lst (ns.map D.str)), b, c] (fun ds => Q (.lst ds)) R
  rw [hz]
  refine lc_sel (fun d => match d with | .str s => !decide (s ∈ ns) | _ => false) id (small _ (by rw [List.length_map]; omega)) (fun d hd => ?_) ?_
  · obtain ⟨s, hs, rfl⟩ := List.mem_map.mp hd
    exact ⟨_, rfl, fun Q' hq => in_lstS hq, fun _ Q' hq => hq⟩
  · have e3 : ((L.map D.str).filter (fun d => match d with | .str s => !decide (s ∈ ns) | _ => false)).map id = (L.filter fun s => !decide (s ∈ ns)).map D.str := by
      rw [List.map_id, List.filter_map]
      rfl
    rw [e3]
    exact q
theorem strange_rt {z : Str} {L ns : List Str} {a b c : Sl} (hz : Pd.signs z = L.map D.str) (hl : L.length ≤ 1000) (q : Q (.lst ((L.filter fun s => !decide (s ∈ ns)).map D.str))) :
    wRet (wLV (wComp [3] (wWalk (wC (.str z))) (sName 3) (wOpB (φInU true) (wVar 3) (wVar 1)) (wVar 3))) [a, .v (.lst (ns.map D.str)), b, c] (fin Q R) := strange_go hz hl q
theorem strange_nm {ts : List Stx} {a b c : Sl} (hl : ts.length ≤ 14) (q : Q (.lst ((ts.map (·.1)).map D.str))) :
    wLV (wComp [2] (wWalk (wVar 0)) (sName 2) wYes (wOp φIxU (wVar 2) (wC (.int 0)))) [.v (stepsD ts), a, b, c] Q R := by
  refine lc_map fstD (small _ (by rw [List.length_map]; omega)) (fun d hd Q hq => ?_) ?_
  · obtain ⟨t, ht, rfl⟩ := List.mem_map.mp hd
    exact ⟨_, rfl, ixt 0 rfl hq⟩
  · have e : (ts.map stepD).map fstD = (ts.map (·.1)).map D.str := by
      rw [List.map_map, List.map_map]
      rfl
    rw [e]
    exact q
theorem lets_signs : Pd.signs abc = lets.map D.str := by
  unfold Pd.signs lets
  rw [List.map_map]
  rfl
section
theorem strange_s {ts : List Stx} (hl : ts.length ≤ 14) (q : ∀ ss : List Str, ss ≠ [] → ss.length ≤ 26 → (∀ s ∈ ss, s.length = 1 ∧ PyData.strOk s = true ∧ s ∉ ts.map (·.1)) → Q (.lst (ss.map D.str))) : F_law_strange T [stepsD ts] Q R := by
  unfold F_law_strange Fr_law_strange
  unfold wSeq wSetS wSv
  refine strange_nm hl ?_
  have e0 : (List.set (startE 4 [stepsD ts]) 1 (Sl.v (.lst ((ts.map (·.1)).map D.str)))) = [.v (stepsD ts), .v (.lst ((ts.map (·.1)).map D.str)), .no, .no] := rfl
  show wRet _ (List.set (startE 4 [stepsD ts]) 1 (Sl.v (.lst ((ts.map (·.1)).map D.str)))) _
  rw [e0]
  refine strange_rt (L := lets) lets_signs ?_ ?_
  · rw [lets_len]; decide
  refine q _ ?_ ?_ ?_
  · intro en
    have sub : ∀ x ∈ lets, x ∈ ts.map (·.1) := fun x hx => by
      by_cases h : x ∈ ts.map (·.1)
      · exact h
      · have : x ∈ lets.filter fun s => !decide (s ∈ ts.map (·.1)) := List.mem_filter.mpr ⟨hx, nF h⟩
        rw [en] at this
        cases this
    have := sub_len lets_nd sub
    rw [lets_len, List.length_map] at this
    omega
  · have := List.length_filter_le (fun s => !decide (s ∈ ts.map (·.1))) lets
    rw [lets_len] at this
    exact this
  · intro s hs
    rw [List.mem_filter] at hs
    obtain ⟨c, hc, rfl⟩ := List.mem_map.mp hs.1
    refine ⟨rfl, ?_, by simpa using hs.2⟩
    have : decide (c ∈ ("abcdefghijklmnopqrstuvwxyz" : Str).cps.toList) = true := decide_eq_true hc
    rw [letter_mem] at this
    exact okD_str (s := ⟨#[c]⟩) (name_of (cs := [c]) rfl leR leR (by simpa using this))
end
/-- a row that is wrong, whatever stands ahead -/
structure Bad (names : List Str) (d : D) : Prop where
  kn : knRow T d
  no : rowOk names d = false
theorem bad_np {names : List Str} {d : D} (h : kn T d = true) (hp : isPairD d = false) : Bad T names d := by
  refine ⟨⟨h, fun x y e => ?_⟩, ?_⟩
  · subst e
    cases hp
  · cases hr : rowOk names d with
    | false => rfl
    | true =>
      obtain ⟨s, c, rfl⟩ := rowOk_pair hr
      cases hp
theorem bad_pair {names : List Str} {x y : D} (hx : kn T x = true) (hy : kn T y = true) (h : rowOk names (.tup [x, y]) = false) : Bad T names (.tup [x, y]) :=
  ⟨⟨rfl, fun a b e => by cases e; exact ⟨hx, hy⟩⟩, h⟩
theorem no_count {names : List Str} {s : Str} {c : D} (h : isCount c = false) : rowOk names (.tup [.str s, c]) = false := by
  show (decide (s ∈ names) && isCount c) = false
  rw [h, Bool.and_false]
theorem no_in {names : List Str} {s : Str} {c : D} (h : s ∉ names) : rowOk names (.tup [.str s, c]) = false := by
  show (decide (s ∈ names) && isCount c) = false
  rw [decide_eq_false h, Bool.false_and]
end
end K09
set_option maxRecDepth 100000
set_option maxHeartbeats 1000000
namespace K09
open PySem PySem.Spec PyProof.Rows L2 Pre Pd

section
variable {P : Program} {w : World} {K : PySem.W.Frag} {mg : Str → Option Value} {base : Heap} (T : Tx K mg) {Q : D → Prop} {R : Err → Prop}
theorem none_s {p : Pln} {step strange : Str} {times : Int} (nm : ∀ s ∈ p.ts.map (·.1), isName s = true) (h1 : 1 ≤ step.length) (h2 : step.length ≤ 8) (h3 : strange.length = 1) (h4 : strange ∉ p.ts.map (·.1)) (h5 : 1 ≤ times) (q : ∀ d, Bad T (p.ts.map (·.1)) d → Q d) :
    F_law_none T [dBox, planD T p, .str step, .str strange, .int times] Q R := by
  unfold F_law_none Fr_law_none
  have l8 : (repT strange 8).length = 8 := by
    obtain ⟨c, hc⟩ : ∃ c, strange = ⟨#[c]⟩ := by
      rw [len_cps] at h3
      obtain ⟨c, hc⟩ := List.length_eq_one_iff.mp h3
      exact ⟨c, str_ext hc⟩
    rw [len_cps, hc]
    have := repT_cps c 8 (by decide)
    rw [show ((8 : Nat) : Int) = 8 from rfl] at this
    rw [this, List.length_replicate]
  have l9 : (step ++ repT strange 8).length = step.length + 8 := by
    rw [len_cps, cps_app, List.length_append, ← len_cps, ← len_cps, l8]
  have n9 : (step ++ repT strange 8) ∉ p.ts.map (·.1) := fun h => by
    have := isName_len (nm _ h)
    omega
  have n0 : ("" : Str) ∉ p.ts.map (·.1) := fun h => by
    have := nm _ h
    cases this
  have kp : kn T (planD T p) = true := by simp [kn, planD]
  refine ⟨small 2, small 3, small 1, small 0, small 2, small 2, small 2, small 2, small 2, small 2, ⟨by decide, by decide, by omega⟩, small _ (by omega), small 2, small 2, small 2, small 1, small 2, small 1, small 2, small 2, small 1, small 2, small 2, small 1, small 2, small 23, rfl, ?_⟩
  refine pick_s T (ds := [.lst [.str step, .int times], .tup [.str step, .int times, .int 1], .tup [.str step], .tup [], .tup [.str step, .int 0], .tup [.str step, .int (-times)], .tup [.str step, .bl true], .tup [.str step, .non], .tup [.str step, .str "1"], .tup [.str strange, .int times], .tup [.str (step ++ repT strange 8), .int times], .tup [.str "", .int times], .tup [.non, .int times], .tup [.lst [.str step], .int times], .tup [.str step, .tup [.int times]], .non, .int times, .tup [.tup [.str step, .int times]], planD T p, .str step, .tup [.int times, .str step], .tup [.int 0, .int times], .tup [.str step, .lst [.int times]]]) rfl (by simp) (by simp) fun x hx => q x ?_
  simp only [List.mem_cons, List.not_mem_nil, or_false] at hx
  rcases hx with rfl | rfl | rfl | rfl | rfl | rfl | rfl | rfl | rfl | rfl | rfl | rfl | rfl | rfl | rfl | rfl | rfl | rfl | rfl | rfl | rfl | rfl | rfl
  · exact bad_np T rfl rfl
  · exact bad_np T rfl rfl
  · exact bad_np T rfl rfl
  · exact bad_np T rfl rfl
  · exact bad_pair T rfl rfl (no_count rfl)
  · exact bad_pair T rfl rfl (no_count (decide_eq_false (by omega)))
  · exact bad_pair T rfl rfl (no_count rfl)
  · exact bad_pair T rfl rfl (no_count rfl)
  · exact bad_pair T rfl rfl (no_count rfl)
  · exact bad_pair T rfl rfl (no_in h4)
  · exact bad_pair T rfl rfl (no_in n9)
  · exact bad_pair T rfl rfl (no_in n0)
  · exact bad_pair T rfl rfl rfl
  · exact bad_pair T rfl rfl rfl
  · exact bad_pair T rfl rfl (no_count rfl)
  · exact bad_np T rfl rfl
  · exact bad_np T rfl rfl
  · exact bad_np T rfl rfl
  · exact bad_np T kp rfl
  · exact bad_np T rfl rfl
  · exact bad_pair T rfl rfl rfl
  · exact bad_pair T rfl rfl rfl
  · exact bad_pair T rfl rfl (no_count rfl)
end
end K09
set_option maxRecDepth 100000
set_option maxHeartbeats 1000000
namespace K09
open PySem PySem.Spec PyProof.Rows L2 Pre Pd

section
variable {P : Program} {w : World} {K : PySem.W.Frag} {mg : Str → Option Value} {base : Heap} (T : Tx K mg) {Q : D → Prop} {R : Err → Prop}
theorem cut_lo {ds : List D} {k : Nat} (h : k ≤ ds.length) : Pd.cutD ds none (some (k : Int)) = ds.take k := by
  unfold Pd.cutD
  have e1 : HT.sIx ds.length 0 none = 0 := rfl
  rw [e1, HT.sIx_nat, Nat.min_eq_left h]
  simp
theorem cut_hi {ds : List D} {k : Nat} (h : k ≤ ds.length) : Pd.cutD ds (some (k : Int)) none = ds.drop k := by
  unfold Pd.cutD
  have e1 : HT.sIx ds.length ds.length none = ds.length := rfl
  rw [e1, HT.sIx_nat, Nat.min_eq_left h]
  exact List.take_of_length_le (by rw [List.length_drop]; omega)
theorem td_let : Td 5 (.tup [.str "let", .non]) := .tup (by
  intro d hd
  simp only [List.mem_cons, List.not_mem_nil, or_false] at hd
  rcases hd with rfl | rfl
  · exact .str (by decide +kernel)
  · exact .non) (by simp)
theorem td_ref (i : Int) : Td 5 (.tup [.str "refused", .int i]) := .tup (by
  intro d hd
  simp only [List.mem_cons, List.not_mem_nil, or_false] at hd
  rcases hd with rfl | rfl
  · exact .str (by decide +kernel)
  · exact .int i) (by simp)
theorem find_at {f : D → Bool} {xs ys : List D} {b : D} (hx : ∀ d ∈ xs, f d = false) (hb : f b = true) : (xs ++ b :: ys).findIdx? f = some xs.length := by
  rw [List.findIdx?_eq_some_iff_getElem]
  refine ⟨by simp, by simp [hb], fun j hj => ?_⟩
  rw [List.getElem_append_left hj, hx _ (List.getElem_mem hj)]
  decide
theorem needs_hold_s {p : Pln} {run : Hpx} {strange : Str} (hl : p.ts.length ≤ 14) (nm : ∀ s ∈ p.ts.map (·.1), isName s = true) (hr : DrawnR (p.ts.map (·.1)) run) (h3 : strange.length = 1) (h4 : strange ∉ p.ts.map (·.1)) (q : Q (.bl true)) :
    F_law_needs_hold T [dBox, planD T p, heapD run, .str strange] Q R := by
  unfold F_law_needs_hold Fr_law_needs_hold
  have len := hr.len
  have kp : kn T (planD T p) = true := by simp [kn, planD]
  have ok : ∀ d ∈ run.map pairD, rowOk (p.ts.map (·.1)) d = true := by
    intro d hd
    obtain ⟨e, he, rfl⟩ := List.mem_map.mp hd
    show (decide _ && decide _) = true
    rw [decide_eq_true (hr.each e he).1, decide_eq_true (hr.each e he).2.1]
    rfl
  have okk : ∀ d ∈ run.map pairD, knRow T d := by
    intro d hd
    obtain ⟨e, he, rfl⟩ := List.mem_map.mp hd
    exact ⟨rfl, fun x y h => by cases h; exact ⟨rfl, rfl⟩⟩
  refine ⟨rfl, said_good T (by omega) okk ok ⟨small 2, rfl, same_s T td_let (wF rfl ?_)⟩⟩
  refine ⟨small 0, small 9, rfl, ?_⟩
  refine pick_s T (ds := [.lst (run.map pairD), .non, .int 0, .bl true, .str "", .str strange, planD T p, .lst (Pd.cutD (run.map pairD) none (some 1)), .lst []]) rfl (by simp) (by simp) fun x hx => ?_
  have hx2 : kn T x = true ∧ isKd .tuple x = false := by
    simp only [List.mem_cons, List.not_mem_nil, or_false] at hx
    rcases hx with rfl | rfl | rfl | rfl | rfl | rfl | rfl | rfl | rfl <;> first | exact ⟨rfl, rfl⟩ | exact ⟨kp, rfl⟩
  refine ⟨rfl, said_not T hx2.1 hx2.2 ⟨small 2, rfl, same_s T (td_ref _) (wF rfl ?_)⟩⟩
  clear hx hx2
  refine ⟨rfl, take_s T (by show (1 : Int) ≤ ((run.map pairD).length : Int) + 1; omega) (by show ((run.map pairD).length : Int) + 1 ≤ 10 ^ 18; rw [List.length_map]; omega) fun at_ hat => ?_⟩
  have hat : at_ ≤ run.length := by
    have : (at_ : Int) < ((run.map pairD).length : Int) + 1 := hat
    rw [List.length_map] at this
    omega
  have ml : (run.map pairD).length = run.length := List.length_map _
  have c1 : Pd.cutD (run.map pairD) none (some (at_ : Int)) = (run.map pairD).take at_ := cut_lo (by omega)
  have c2 : Pd.cutD (run.map pairD) (some (at_ : Int)) none = (run.map pairD).drop at_ := cut_hi (by omega)
  have e0 : run.map pairD ++ [.tup [.str strange, .int 1]] = (run ++ [(strange, (1 : Int))]).map pairD := by rw [List.map_append]; rfl
  have hx : at_ - 1 < (run ++ [(strange, (1 : Int))]).length := by rw [List.length_append]; show at_ - 1 < run.length + 1; omega
  obtain ⟨e, he⟩ : ∃ e, (run ++ [(strange, (1 : Int))])[at_ - 1]? = some e := ⟨_, List.getElem?_eq_getElem hx⟩
  have hem := List.mem_of_getElem? he
  have he1 : 1 ≤ e.1.length ∧ e.1.length ≤ 8 ∧ 1 ≤ e.2 := by
    rcases List.mem_append.mp hem with h | h
    · have h1 := hr.each e h
      have h2 := nm _ h1.1
      refine ⟨?_, isName_len h2, h1.2.1⟩
      unfold isName at h2
      rw [Bool.and_eq_true] at h2
      exact of_decide_eq_true h2.1
    · rw [List.mem_singleton.mp h]
      exact ⟨by show 1 ≤ strange.length; omega, by show strange.length ≤ 8; omega, by show (1 : Int) ≤ 1; decide⟩
  refine ⟨small 2, small 1, small _ (by rw [ml]; show run.length + 1 ≤ 100000; omega), ixt (at_ - 1) (by rw [e0]; exact at_map he) ?_ (by show max ((at_ : Int) - 1) 0 = ((at_ - 1 : Nat) : Int); omega)⟩
  refine ⟨rfl, none_s T nm he1.1 he1.2.1 h3 h4 he1.2.2 fun bad hb => ⟨small 1, small _ (by rw [c1, List.length_take]; show _ + 1 ≤ 100000; omega), small _ (by rw [c1, c2, List.length_append, List.length_take, List.length_drop]; show _ + 1 + _ ≤ 100000; omega), ?_⟩⟩
  generalize hsp : Pd.cutD (run.map pairD) none (some (at_ : Int)) ++ [bad] ++ Pd.cutD (run.map pairD) (some (at_ : Int)) none = sp
  have sp1 : sp = (run.map pairD).take at_ ++ bad :: (run.map pairD).drop at_ := by rw [← hsp, c1, c2, List.append_assoc]; rfl
  have tl : ((run.map pairD).take at_).length = at_ := by rw [List.length_take]; omega
  have okt : ∀ d ∈ (run.map pairD).take at_, (!rowOk (p.ts.map (·.1)) d) = false := fun d hd => by rw [ok d (List.mem_of_mem_take hd)]; rfl
  have f1 : sp.findIdx? (fun d => !rowOk (p.ts.map (·.1)) d) = some at_ := by
    have := find_at (ys := (run.map pairD).drop at_) okt (show (!rowOk (p.ts.map (·.1)) bad) = true by rw [hb.no]; rfl)
    rw [tl] at this
    rw [sp1]
    exact this
  have k1 : ∀ d ∈ sp, knRow T d := by
    intro d hd
    rw [sp1] at hd
    rcases List.mem_append.mp hd with h | h
    · exact okk d (List.mem_of_mem_take h)
    · rcases List.mem_cons.mp h with rfl | h
      · exact hb.kn
      · exact okk d (List.mem_of_mem_drop h)
  have spl : sp.length = run.length + 1 := by
    rw [sp1, List.length_append, List.length_cons, List.length_drop, tl, ml]
    omega
  refine ⟨rfl, said_bad T (by omega) k1 f1 ⟨small 2, rfl, same_s T (td_ref _) (wF rfl ?_)⟩⟩
  refine ⟨rfl, take_s T (by show (1 : Int) ≤ ((run.map pairD).length : Int) - at_ + 1; omega) (by show ((run.map pairD).length : Int) - at_ + 1 ≤ 10 ^ 18; omega) fun r hr2 => ?_⟩
  have hr2 : at_ + 1 + r ≤ run.length + 1 := by
    have : (r : Int) < ((run.map pairD).length : Int) - at_ + 1 := hr2
    omega
  have eL : ((at_ : Int) + 1 + (r : Int)) = ((at_ + 1 + r : Nat) : Int) := by omega
  have c3 : Pd.cutD sp none (some ((at_ : Int) + 1 + (r : Int))) = sp.take (at_ + 1 + r) := by rw [eL]; exact cut_lo (by omega)
  have c4 : Pd.cutD sp (some ((at_ : Int) + 1 + (r : Int))) none = sp.drop (at_ + 1 + r) := by rw [eL]; exact cut_hi (by omega)
  refine ⟨rfl, none_s T nm he1.1 he1.2.1 h3 h4 he1.2.2 fun bad2 hb2 => ⟨small 1, small _ (by rw [c3, List.length_take]; show _ + 1 ≤ 100000; omega), small _ (by rw [c3, c4, List.length_append, List.length_take, List.length_drop]; show _ + 1 + _ ≤ 100000; omega), ?_⟩⟩
  generalize htw : Pd.cutD sp none (some ((at_ : Int) + 1 + (r : Int))) ++ [bad2] ++ Pd.cutD sp (some ((at_ : Int) + 1 + (r : Int))) none = tw
  have tk : sp.take (at_ + 1 + r) = (run.map pairD).take at_ ++ bad :: ((run.map pairD).drop at_).take r := by
    rw [sp1, List.take_append, tl, List.take_of_length_le (by omega), show at_ + 1 + r - at_ = r + 1 from by omega, List.take_succ_cons]
  have tw1 : tw = (run.map pairD).take at_ ++ bad :: (((run.map pairD).drop at_).take r ++ bad2 :: sp.drop (at_ + 1 + r)) := by
    rw [← htw, c3, c4, tk]
    simp
  have f2 : tw.findIdx? (fun d => !rowOk (p.ts.map (·.1)) d) = some at_ := by
    have := find_at (ys := ((run.map pairD).drop at_).take r ++ bad2 :: sp.drop (at_ + 1 + r)) okt (show (!rowOk (p.ts.map (·.1)) bad) = true by rw [hb.no]; rfl)
    rw [tl] at this
    rw [tw1]
    exact this
  have k2 : ∀ d ∈ tw, knRow T d := by
    intro d hd
    rw [← htw, c3, c4, List.append_assoc] at hd
    rcases List.mem_append.mp hd with h | h
    · exact k1 d (List.mem_of_mem_take h)
    · rcases List.mem_cons.mp h with rfl | h
      · exact hb2.kn
      · exact k1 d (List.mem_of_mem_drop h)
  exact ⟨rfl, said_bad T (by omega) k2 f2 ⟨small 2, rfl, same_s T (td_ref _) (wT rfl ⟨rfl, rfl, need_good T (by omega) okk ok (isN_non q)⟩)⟩⟩
end
end K09
set_option maxRecDepth 100000
set_option maxHeartbeats 1000000
namespace K09
open PySem PySem.Spec PyProof.Rows L2 Pre Pd

section
variable {P : Program} {w : World} {K : PySem.W.Frag} {mg : Str → Option Value} {base : Heap} (T : Tx K mg) {Q : D → Prop} {R : Err → Prop}
/-- h is l added up by names, ascending (nz: without noughts) -/
structure Sm (nz : Bool) (l h : Ms) : Prop where
  asc : Asc (h.map (·.1))
  mem : ∀ s, s ∈ h.map (·.1) ↔ s ∈ l.map (·.1) ∧ (nz = true → tot l s ≠ 0)
  val : ∀ p ∈ h, p.2 = tot l p.1
theorem Sm.uniq {n1 n2 : Bool} {l l' h h' : Ms} (a : Sm n1 l h) (b : Sm n2 l' h') (ht : ∀ s, tot l s = tot l' s) (hm : ∀ s, s ∈ h.map (·.1) ↔ s ∈ h'.map (·.1)) : h = h' := by
  have e := asc_uniq a.asc b.asc hm
  have key : ∀ {x y : Ms}, x.map (·.1) = y.map (·.1) → (∀ p ∈ x, p.2 = tot l p.1) → (∀ p ∈ y, p.2 = tot l p.1) → x = y := by
    intro x
    induction x with
    | nil =>
      intro y e _ _
      exact (List.map_eq_nil_iff.mp e.symm).symm
    | cons p x ih =>
      intro y e h1 h2
      cases y with
      | nil => cases e
      | cons q y =>
        simp only [List.map_cons, List.cons.injEq] at e
        have e2 : p.2 = q.2 := by rw [h1 p List.mem_cons_self, h2 q List.mem_cons_self, e.1]
        rw [ih e.2 (fun z hz => h1 z (List.mem_cons_of_mem _ hz)) (fun z hz => h2 z (List.mem_cons_of_mem _ hz))]
        exact congrArg (· :: y) (Prod.ext e.1 e2)
  exact key e a.val fun p hp => by rw [ht]; exact b.val p hp
theorem dix_ok {i ik : Nat} {env : En} {m : Ms} {s : Str} {P' : D → Prop} (he : envDic env i = some (kOf m, vOf m)) (hk : env[ik]? = some (.v (.str s))) (hs : has m s = true) (k : P' (.int (at0 m s))) : wDIx i (wVar ik) env P' R := by
  unfold wDIx wVar
  simp only [he, hk, keyOf]
  rw [dget_has hs]
  exact k
theorem sortD_ok {m : Ms} {Q' : List D → Prop} (nd : (m.map (·.1)).Nodup) (hl : m.length < 64) (q : ∀ ns : List Str, ns.Perm (m.map (·.1)) → Asc ns → Q' (ns.map D.str)) : φSortD [.dic (kOf m) (vOf m)] Q' := by
  unfold φSortD
  have e : kOf m = (m.map (·.1)).map Sum.inr := by unfold kOf; rw [List.map_map]; rfl
  simp only [e, txtKeys_map]
  exact ⟨by rw [List.length_map]; exact hl, fun ys h1 h2 => q ys h1 (asc_sortedS (h1.nodup_iff.mpr nd) h2)⟩
theorem added_up_s {d : D} {l : Hpx} {ns : List Str} (hw : d.walk = some (l.map pairD)) (hns : ns.length < 64) (sub : ∀ p ∈ l, p.1 ∈ ns) (nm : ∀ s ∈ ns, isName s = true) (q : ∀ h, Sm true l h → Q (heapD h)) : F_added_up T [d] Q R := by
  unfold F_added_up Fr_added_up
  refine for_inv (l.map pairD) (by
    intro Q' R' k
    show match d.walk with | some ds => Q' ds | none => False
    rw [hw]
    exact k) (fun i e => ∃ m a b, e = [.v d, .k (kOf m) (vOf m), a, b] ∧ Upto (l.take i) m) ⟨[], _, _, rfl, upto_nil⟩ ?_ ?_
  · rintro i x e0 Q' hd ⟨m, a, b, rfl, u⟩ hq
    obtain ⟨p, hp, rfl⟩ := map_at hd
    have ml : m.length < 64 := by
      have := sub_len (m := ns) u.nd fun s hs => by
        obtain ⟨e, he, rfl⟩ := List.mem_map.mp ((u.mem s).mp hs)
        exact sub e (List.mem_of_mem_take he)
      rw [List.length_map] at this
      omega
    refine ⟨_, rfl, ⟨_, _, rfl⟩, dacc_ok rfl rfl rfl (by omega) (hq.nx _ ⟨_, _, _, rfl, ?_⟩)⟩
    have := u.step p
    rw [List.take_add_one, hp]
    exact this
  · rintro e ⟨m, a, b, rfl, u⟩
    rw [List.length_map, List.take_length] at u
    have ml : m.length < 64 := by
      have := sub_len (m := ns) u.nd fun s hs => by
        obtain ⟨e, he, rfl⟩ := List.mem_map.mp ((u.mem s).mp hs)
        exact sub e he
      rw [List.length_map] at this
      omega
    refine sortD_ok u.nd ml fun ks h1 h2 => ?_
    have hin : ∀ s ∈ ks, has m s = true := fun s hs => has_iff.mpr (h1.mem_iff.mp hs)
    refine lc_sel (fun d => match d with | .str s => !(at0 m s == 0) | _ => false) (fun d => match d with | .str s => pairD (s, at0 m s) | y => y) (small _ (by rw [List.length_map, h1.length_eq, List.length_map]; omega)) (fun d hd => ?_) ?_
    · obtain ⟨s, hs, rfl⟩ := List.mem_map.mp hd
      refine ⟨_, rfl, fun Q' hq => dix_ok (m := m) (s := s) rfl rfl (hin s hs) (eq_ok rfl rfl leR leR hq), fun _ Q' hq => dix_ok (m := m) (s := s) rfl rfl (hin s hs) ⟨small 2, hq⟩⟩
    · have e : ((ks.map D.str).filter (fun d => match d with | .str s => !(at0 m s == 0) | _ => false)).map (fun d => match d with | .str s => pairD (s, at0 m s) | y => y) = ((ks.filter fun s => !(at0 m s == 0)).map fun s => (s, at0 m s)).map pairD := by
        rw [List.filter_map, List.map_map, List.map_map]
        rfl
      rw [e]
      have en : ((ks.filter fun s => !(at0 m s == 0)).map fun s => (s, at0 m s)).map (·.1) = ks.filter fun s => !(at0 m s == 0) := by
        rw [List.map_map]
        exact List.map_id _
      refine q _ ⟨?_, fun s => ?_, fun p hp => ?_⟩
      · rw [en]
        exact h2.filter _
      · rw [en, List.mem_filter, h1.mem_iff, u.mem, u.val]
        simp
      · obtain ⟨s, hs, rfl⟩ := List.mem_map.mp hp
        exact u.val s
end
end K09
set_option maxRecDepth 100000
set_option maxHeartbeats 1000000
namespace K09
open PySem PySem.Spec PyProof.Rows L2 Pre Pd
section
variable {K : PySem.W.Frag} {mg : Str → Option Value} (T : Tx K mg) {Q : D → Prop} {R : Err → Prop}
theorem join_in {x0 d : Sl} {k : List D → Prop} : ∀ (xs acc : List D) (x2 : Sl), acc.length + xs.length ≤ sizeLine → k (acc ++ xs) → wLc2i [2] (sName 2) wYes (wVar 2) xs acc [x0, d, x2] k
  | [], acc, x2, h, q => by
    show k acc
    simpa using q
  | x :: xs, acc, x2, h, q => by
    rw [List.length_cons] at h
    exact ⟨by omega, join_in xs (acc ++ [x]) x2 (by simp; omega) (by simpa using q)⟩
theorem join_out {x0 : Sl} {P' : List D → Prop} : ∀ (hs : List (List D)) (acc : List D) (x1 x2 : Sl), acc.length + hs.flatten.length ≤ sizeLine → P' (acc ++ hs.flatten) → wLc2o [1, 2] (sName 1) wYes (wWalk (wVar 1)) (wLc2i [2] (sName 2) wYes (wVar 2)) (hs.map D.tup) acc [x0, x1, x2] P'
  | [], acc, x1, x2, h, q => by
    show P' acc
    simpa using q
  | y :: hs, acc, x1, x2, h, q => by
    rw [List.flatten_cons, List.length_append] at h
    rw [List.flatten_cons] at q
    show wLc2i [2] (sName 2) wYes (wVar 2) y acc [x0, .v (.tup y), .no] (fun acc' => wLc2o [1, 2] (sName 1) wYes (wWalk (wVar 1)) (wLc2i [2] (sName 2) wYes (wVar 2)) (hs.map D.tup) acc' [x0, x1, x2] P')
    exact join_in y acc .no (by omega) (join_out hs (acc ++ y) x1 x2 (by simp only [List.length_append]; omega) (by rw [List.append_assoc]; exact q))
end

section
variable {P : Program} {w : World} {K : PySem.W.Frag} {mg : Str → Option Value} {base : Heap} (T : Tx K mg) {Q : D → Prop} {R : Err → Prop}
theorem joined_s {hs : List Hpx} {d : D} {ns : List Str} (hw : d.walk = some (hs.map heapD)) (hl : hs.flatten.length ≤ 10000) (hns : ns.length < 64) (sub : ∀ p ∈ hs.flatten, p.1 ∈ ns) (nm : ∀ s ∈ ns, isName s = true) (q : ∀ h, Sm true hs.flatten h → Q (heapD h)) : F_changes_joined T [d] Q R := by
  unfold F_changes_joined Fr_changes_joined
  show wWalk (wVar 0) [.v d, .no, .no] (fun ds => wLc2o [1, 2] (sName 1) wYes (wWalk (wVar 1)) (wLc2i [2] (sName 2) wYes (wVar 2)) ds [] [.v d, .no, .no] (fun ds => [D.lst ds].length = 1 ∧ F_added_up T [.lst ds] Q R)) R
  show match d.walk with | some ds => _ | none => False
  rw [hw]
  have e : hs.map heapD = (hs.map (List.map pairD)).map D.tup := by rw [List.map_map]; rfl
  have e2 : (hs.map (List.map pairD)).flatten = hs.flatten.map pairD := by rw [List.map_flatten]
  show wLc2o [1, 2] (sName 1) wYes (wWalk (wVar 1)) (wLc2i [2] (sName 2) wYes (wVar 2)) (hs.map heapD) [] [.v d, .no, .no] _
  rw [e]
  refine join_out _ [] _ _ (small _ (by rw [e2, List.length_map]; show 0 + hs.flatten.length ≤ 100000; omega)) ?_
  rw [e2]
  exact ⟨rfl, added_up_s T (l := hs.flatten) rfl hns sub nm q⟩
theorem run_sum_s {run : Hpx} {ns : List Str} (hl : run.length ≤ 1000) (hns : ns.length < 64) (sub : ∀ p ∈ run, p.1 ∈ ns) (nm : ∀ s ∈ ns, isName s = true) (q : ∀ h, Sm true run h → Q (heapD h)) : F_run_sum T [heapD run] Q R := by
  unfold F_run_sum Fr_run_sum
  have e : [run].flatten = run := by simp
  exact ⟨small 1, rfl, joined_s T (hs := [run]) rfl (by rw [e]; omega) hns (by rw [e]; exact sub) nm (by rw [e]; exact q)⟩
theorem law_sum_s {run : Hpx} {ns : List Str} (hl : run.length ≤ 1000) (hns : ns.length < 64) (sub : ∀ p ∈ run, p.1 ∈ ns) (q : ∀ h, Sm false run h → Q (heapD h)) : F_law_sum T [heapD run] Q R := by
  unfold F_law_sum Fr_law_sum
  refine for_inv (run.map pairD) (by exact fun Q' R' k => k) (fun i e => ∃ m a b, e = [.v (heapD run), .k (kOf m) (vOf m), a, b] ∧ Upto (run.take i) m) ⟨[], _, _, rfl, upto_nil⟩ ?_ ?_
  · rintro i x e0 Q' hd ⟨m, a, b, rfl, u⟩ hq
    obtain ⟨p, hp, rfl⟩ := map_at hd
    have ml : m.length < 64 := by
      have := sub_len (m := ns) u.nd fun s hs => by
        obtain ⟨e, he, rfl⟩ := List.mem_map.mp ((u.mem s).mp hs)
        exact sub e (List.mem_of_mem_take he)
      rw [List.length_map] at this
      omega
    refine ⟨_, rfl, ⟨_, _, rfl⟩, dacc_ok rfl rfl rfl (by omega) (hq.nx _ ⟨_, _, _, rfl, ?_⟩)⟩
    have := u.step p
    rw [List.take_add_one, hp]
    exact this
  · rintro e ⟨m, a, b, rfl, u⟩
    rw [List.length_map, List.take_length] at u
    have ml : m.length < 64 := by
      have := sub_len (m := ns) u.nd fun s hs => by
        obtain ⟨e, he, rfl⟩ := List.mem_map.mp ((u.mem s).mp hs)
        exact sub e he
      rw [List.length_map] at this
      omega
    have ek : (kOf m).map dOf = (m.map (·.1)).map D.str := by unfold kOf; rw [List.map_map, List.map_map]; rfl
    show φSorted [.lst ((kOf m).map dOf)] _
    rw [ek]
    refine sorted_strs u.nd fun ks h1 h2 => ?_
    have hin : ∀ s ∈ ks, has m s = true := fun s hs => has_iff.mpr (h1.mem_iff.mp hs)
    refine lc_map (fun d => match d with | .str s => pairD (s, at0 m s) | y => y) (small _ (by rw [List.length_map, h1.length_eq, List.length_map]; omega)) (fun d hd Q' hq => ?_) ?_
    · obtain ⟨s, hs, rfl⟩ := List.mem_map.mp hd
      exact ⟨_, rfl, dix_ok (m := m) (s := s) rfl rfl (hin s hs) ⟨small 2, hq⟩⟩
    · have e : (ks.map D.str).map (fun d => match d with | .str s => pairD (s, at0 m s) | y => y) = (ks.map fun s => (s, at0 m s)).map pairD := by
        rw [List.map_map, List.map_map]
        rfl
      rw [e]
      have en : (ks.map fun s => (s, at0 m s)).map (·.1) = ks := by
        rw [List.map_map]
        exact List.map_id _
      refine q _ ⟨by rw [en]; exact h2, fun s => ?_, fun p hp => ?_⟩
      · rw [en, h1.mem_iff, u.mem]
        simp
      · obtain ⟨s, hs, rfl⟩ := List.mem_map.mp hp
        exact u.val s
end
end K09
set_option maxRecDepth 100000
set_option maxHeartbeats 1000000
namespace K09
open PySem PySem.Spec PyProof.Rows L2 Pre Pd
theorem pop_ok {i : Nat} {env : En} {ds : List D} {d : D} {P' : D → En → Prop} {R' : Err → Prop} (he : env[i]? = some (.l ds)) (hd : ds.getLast? = some d) (k : P' d (env.set i (.l ds.dropLast))) : wPop i env P' R' := by
  unfold wPop
  rw [he]
  simp only
  rw [List.getLast?_eq_getElem?] at hd
  rw [hd]
  exact k

section
variable {P : Program} {w : World} {K : PySem.W.Frag} {mg : Str → Option Value} {base : Heap} (T : Tx K mg) {Q : D → Prop} {R : Err → Prop}
theorem steps_in_s {run : Hpx} (hl : run.length ≤ 1000) (q : Q (.int (run.map (·.2)).sum)) : F_steps_in T [heapD run] Q R := by
  unfold F_steps_in Fr_steps_in
  refine lc_map (fun d => match d with | .tup [_, y] => y | y => y) (small _ (by rw [List.length_map]; omega)) (fun d hd Q' hq => ?_) ?_
  · obtain ⟨p, hp, rfl⟩ := List.mem_map.mp hd
    exact ⟨_, rfl, hq⟩
  · exact sum_ok (run.map fun p : Str × Int => p.2) (by rw [List.map_map, List.map_map]; rfl) (by exact q)
/-- rows one after another: one more -/
def fstep (acc : Ms) (p : Str × Int) : Ms := match acc.getLast? with
  | some q => if q.1 = p.1 then acc.dropLast ++ [(p.1, p.2 + q.2)] else acc ++ [p]
  | none => acc ++ [p]
theorem fstep_len (acc : Ms) (p : Str × Int) : (fstep acc p).length ≤ acc.length + 1 := by
  unfold fstep
  split
  · split
    · rw [List.length_append, List.length_dropLast]
      show acc.length - 1 + 1 ≤ acc.length + 1
      omega
    · rw [List.length_append]
      exact Nat.le_refl _
  · rw [List.length_append]
    exact Nat.le_refl _
theorem folded_s {run : Hpx} (hl : run.length ≤ 1000) (nm : ∀ p ∈ run, PyData.strOk p.1 = true) (q : Q (heapD (run.foldl fstep []))) : F_folded T [heapD run] Q R := by
  unfold F_folded Fr_folded
  refine ⟨small 0, ?_⟩
  refine for_inv (run.map pairD) (by exact fun Q' R' k => k) (fun i e => ∃ a b, e = [.v (heapD run), .l (((run.take i).foldl fstep []).map pairD), a, b] ∧ ((run.take i).foldl fstep []).length ≤ i ∧ ∀ p ∈ (run.take i).foldl fstep [], PyData.strOk p.1 = true) ⟨_, _, rfl, Nat.le_refl _, by simp⟩ ?_ ?_
  · rintro i x e0 Q' hd ⟨a, b, rfl, hlen, hok⟩ hq
    obtain ⟨p, hp, rfl⟩ := map_at hd
    have hi := get_lt hp
    have hnx : (run.take (i + 1)).foldl fstep [] = fstep ((run.take i).foldl fstep []) p := by
      rw [List.take_add_one, hp, List.foldl_append]
      rfl
    have hpk := nm p (List.mem_of_getElem? hp)
    generalize hacc : (run.take i).foldl fstep [] = acc at hlen hok hnx ⊢
    refine ⟨_, rfl, ?_⟩
    have done : ∀ (acc2 : Ms) (v : Int) (a : Sl), acc2 ++ [(p.1, v)] = fstep acc p → acc2.length ≤ i → (∀ z ∈ acc2, PyData.strOk z.1 = true) → wApp' 1 (wTup (wCons (wVar 2) (wCons (wVar 3) wNil))) [.v (heapD run), .l (acc2.map pairD), .v (.str p.1), .v (.int v)] Q' := by
      intro acc2 v a h1 h2 h3
      refine ⟨small 2, by rw [List.length_map, sizeLine_eq]; omega, hq.nx _ ⟨.v (.str p.1), .v (.int v), ?_, ?_, ?_⟩⟩
      · rw [hnx, ← h1, List.map_append]; rfl
      · rw [hnx, ← h1, List.length_append]; show acc2.length + 1 ≤ i + 1; omega
      · rw [hnx, ← h1]
        intro z hz
        rcases List.mem_append.mp hz with hz | hz
        · exact h3 z hz
        · rw [List.mem_singleton.mp hz]; exact hpk
    cases hg : acc.getLast? with
    | none =>
      have : acc = [] := List.getLast?_eq_none_iff.mp hg
      subst this
      exact done [] p.2 a rfl (by simp) (by simp)
    | some z =>
      have hz : z ∈ acc := List.mem_of_getLast? hg
      have ne : (!(acc.map pairD).isEmpty) = true := by cases acc with
        | nil => cases hz
        | cons _ _ => rfl
      refine wT ne (ixl_last (d := pairD z) (by rw [List.getLast?_map, hg]; rfl) (ixt 0 rfl (eq_ok (hok z hz) hpk leR leR ?_)))
      have ee : eqD (.str z.1) (.str p.1) = decide (z.1 = p.1) := by
        show (z.1 == p.1) = _
        rw [Bool.eq_iff_iff, beq_iff_eq, decide_eq_true_iff]
      by_cases e : z.1 = p.1
      · refine wT (by rw [ee]; exact decide_eq_true e) (pop_ok (d := pairD z) rfl (by rw [List.getLast?_map, hg]; rfl) (ixt 1 rfl ?_))
        have ed : (acc.map pairD).dropLast = acc.dropLast.map pairD := by rw [List.map_dropLast]
        have fin := done acc.dropLast (p.2 + z.2) a (by unfold fstep; rw [hg]; simp [e]) (by rw [List.length_dropLast]; omega) (fun y hy => hok y (List.dropLast_subset _ hy))
        rw [← ed] at fin
        exact fin
      · refine wF (by rw [ee]; exact decide_eq_false e) (done acc p.2 a (by unfold fstep; rw [hg]; simp [e]) hlen hok)
  · rintro e ⟨a, b, rfl, hlen, hok⟩
    rw [List.length_map, List.take_length]
    exact q
end
end K09
set_option maxRecDepth 100000
set_option maxHeartbeats 1000000
namespace K09
open PySem PySem.Spec PyProof.Rows L2 Pre Pd

section
variable {P : Program} {w : World} {K : PySem.W.Frag} {mg : Str → Option Value} {base : Heap} (T : Tx K mg) {Q : D → Prop} {R : Err → Prop}
def scaled (c : Ms) (n : Int) : Ms := c.map fun p => (p.1, p.2 * n)
theorem change_times_s {c : Hpx} {n : Int} {ns : List Str} (hl : c.length ≤ 1000) (hn : n.natAbs < 2 ^ 60) (hc : ∀ p ∈ c, p.2.natAbs < 2 ^ 60) (hns : ns.length < 64) (sub : ∀ p ∈ c, p.1 ∈ ns) (nm : ∀ s ∈ ns, isName s = true) (q : ∀ h, Sm true (scaled c n) h → Q (heapD h)) : F_change_times T [heapD c, .int n] Q R := by
  unfold F_change_times Fr_change_times
  refine lc_map (fun d => match d with | .tup [s, .int v] => .tup [s, .int (v * n)] | y => y) (small _ (by rw [List.length_map]; omega)) (fun d hd Q' hq => ?_) ?_
  · obtain ⟨p, hp, rfl⟩ := List.mem_map.mp hd
    exact ⟨_, rfl, mulOk 60 60 (hc p hp) hn, small 2, hq⟩
  · have e : (c.map pairD).map (fun d => match d with | .tup [s, .int v] => .tup [s, .int (v * n)] | y => y) = (scaled c n).map pairD := by
      unfold scaled
      rw [List.map_map, List.map_map]
      rfl
    rw [e]
    refine ⟨rfl, added_up_s T (l := scaled c n) rfl hns (fun p hp => ?_) nm q⟩
    obtain ⟨z, hz, rfl⟩ := List.mem_map.mp hp
    exact sub z hz
theorem Sm.len {nz : Bool} {l h : Ms} {ns : List Str} (a : Sm nz l h) (sub : ∀ p ∈ l, p.1 ∈ ns) : h.length ≤ ns.length := by
  have := sub_len (m := ns) (asc_nodup a.asc) fun s hs => by
    obtain ⟨e, he, rfl⟩ := List.mem_map.mp ((a.mem s).mp hs).1
    exact sub e he
  rwa [List.length_map] at this
theorem Sm.sub {nz : Bool} {l h : Ms} {ns : List Str} (a : Sm nz l h) (sub : ∀ p ∈ l, p.1 ∈ ns) : ∀ p ∈ h, p.1 ∈ ns := fun p hp => by
  obtain ⟨e, he, e2⟩ := List.mem_map.mp ((a.mem p.1).mp (List.mem_map_of_mem hp)).1
  rw [← e2]
  exact sub e he
theorem gap_s {a b : Hpx} {ns : List Str} (la : a.length ≤ 1000) (lb : b.length ≤ 1000) (ha : ∀ p ∈ a, p.2.natAbs < 2 ^ 60) (hns : ns.length < 64) (sa : ∀ p ∈ a, p.1 ∈ ns) (sb : ∀ p ∈ b, p.1 ∈ ns) (nm : ∀ s ∈ ns, isName s = true)
    (q : ∀ h1 h, Sm true (scaled a (-1)) h1 → Sm true (b ++ h1) h → Q (heapD h)) : F_gap T [heapD a, heapD b] Q R := by
  unfold F_gap Fr_gap
  have ss : ∀ p ∈ scaled a (-1), p.1 ∈ ns := fun p hp => by
    obtain ⟨z, hz, rfl⟩ := List.mem_map.mp hp
    exact sa z hz
  refine ⟨rfl, change_times_s T la (by decide) ha hns sa nm fun h1 s1 => ⟨small 2, rfl, ?_⟩⟩
  have l1 := s1.len ss
  have e : [b, h1].flatten = b ++ h1 := by simp
  refine joined_s T (hs := [b, h1]) rfl (by rw [e, List.length_append]; omega) hns (by
    rw [e]
    intro p hp
    rcases List.mem_append.mp hp with h | h
    · exact sb p h
    · exact s1.sub ss p h) nm (by rw [e]; exact fun h s2 => q h1 h s1 s2)
theorem step_of_s {p : Pln} {t : Stx} (hl : p.ts.length ≤ 1000) (nm : ∀ t ∈ p.ts, isName t.1 = true) (nd : (p.ts.map (·.1)).Nodup) (ht : t ∈ p.ts) (q : Q (stepD t)) : F_step_of T [planD T p, .str t.1] Q R := by
  unfold F_step_of Fr_step_of
  refine for_inv (p.ts.map stepD) (by exact fun Q' R' k => ⟨by simp [Tx.objs], k⟩) (fun i e => (∃ a, e = [.v (planD T p), .v (.str t.1), a]) ∧ t ∈ p.ts.drop i) ⟨⟨_, rfl⟩, by simpa using ht⟩ ?_ ?_
  · rintro i d e0 Q' hd ⟨⟨a, rfl⟩, hm⟩ hq
    obtain ⟨u, hu, rfl⟩ := map_at hd
    have ou := okD_str (nm u (List.mem_of_getElem? hu))
    have ot := okD_str (nm t ht)
    refine ⟨_, rfl, ixt 0 rfl (eq_ok ou ot leR leR ?_)⟩
    have ee : eqD (.str u.1) (.str t.1) = decide (u.1 = t.1) := by
      show (u.1 == t.1) = _
      rw [Bool.eq_iff_iff, beq_iff_eq, decide_eq_true_iff]
    obtain ⟨hi, eu⟩ := List.getElem?_eq_some_iff.mp hu
    rw [List.drop_eq_getElem_cons hi, eu] at hm
    by_cases e : u.1 = t.1
    · refine wT (by rw [ee]; exact decide_eq_true e) (hq.rt _ ?_)
      have : u = t := by
        rcases List.mem_cons.mp hm with h | h
        · exact h.symm
        · exfalso
          obtain ⟨j, hj, ej⟩ := List.getElem_of_mem h
          rw [List.getElem_drop] at ej
          rw [List.nodup_iff_pairwise_ne, List.pairwise_iff_getElem] at nd
          have := nd i (i + 1 + j) (by rw [List.length_map]; exact hi) (by rw [List.length_map]; rw [List.length_drop] at hj; omega) (by omega)
          rw [List.getElem_map, List.getElem_map, eu, ej] at this
          exact this e
      rw [this]
      exact q
    · refine wF (by rw [ee]; exact decide_eq_false e) (hq.nx _ ⟨⟨_, rfl⟩, ?_⟩)
      rcases List.mem_cons.mp hm with h | h
      · exact absurd (by rw [h]) e
      · exact h
  · rintro e ⟨⟨a, rfl⟩, hm⟩
    rw [List.length_map, List.drop_length] at hm
    cases hm
end
end K09
set_option maxRecDepth 100000
set_option maxHeartbeats 1000000
namespace K09
open PySem PySem.Spec PyProof.Rows L2 Pre Pd

section
variable {P : Program} {w : World} {K : PySem.W.Frag} {mg : Str → Option Value} {base : Heap} (T : Tx K mg) {Q : D → Prop} {R : Err → Prop}
theorem tot_no {l : Ms} {s : Str} (h : s ∉ l.map (·.1)) : tot l s = 0 := by
  induction l with
  | nil => rfl
  | cons p l ih =>
    rw [List.map_cons, List.mem_cons, not_or] at h
    show (if p.1 = s then p.2 else 0) + tot l s = 0
    rw [if_neg (Ne.symm h.1), ih h.2]
    rfl
theorem tot_one {l : Ms} (nd : (l.map (·.1)).Nodup) {p : Str × Int} (hp : p ∈ l) : tot l p.1 = p.2 := by
  induction l with
  | nil => cases hp
  | cons q l ih =>
    rw [List.map_cons, List.nodup_cons] at nd
    show (if q.1 = p.1 then q.2 else 0) + tot l p.1 = p.2
    rcases List.mem_cons.mp hp with e | h
    · rw [← e] at nd ⊢
      rw [if_pos rfl, tot_no nd.1]
      omega
    · have ne : q.1 ≠ p.1 := fun e => nd.1 (by rw [e]; exact List.mem_map_of_mem h)
      rw [if_neg ne, ih nd.2 h]
      omega
theorem Sm.tot {nz : Bool} {l h : Ms} (a : Sm nz l h) (s : Str) : tot h s = tot l s := by
  by_cases hs : s ∈ h.map (·.1)
  · obtain ⟨p, hp, rfl⟩ := List.mem_map.mp hs
    rw [tot_one (asc_nodup a.asc) hp, a.val p hp]
  · rw [tot_no hs]
    by_cases hl : s ∈ l.map (·.1)
    · by_cases z : Pd.tot l s = 0
      · exact z.symm
      · exact absurd ((a.mem s).mpr ⟨hl, fun _ => z⟩) hs
    · exact (tot_no hl).symm
theorem Sm.mem0 {l h : Ms} (a : Sm true l h) (s : Str) : s ∈ h.map (·.1) ↔ Pd.tot l s ≠ 0 := by
  rw [a.mem]
  constructor
  · exact fun h => h.2 rfl
  · intro h
    refine ⟨?_, fun _ => h⟩
    by_cases hl : s ∈ l.map (·.1)
    · exact hl
    · exact absurd (tot_no hl) h
theorem Sm.same {l l' h h' : Ms} (a : Sm true l h) (b : Sm true l' h') (ht : ∀ s, Pd.tot l s = Pd.tot l' s) : h = h' := a.uniq b ht fun s => by rw [a.mem0, b.mem0, ht]
theorem tot_scaled (c : Ms) (n : Int) (s : Str) : tot (scaled c n) s = tot c s * n := by
  induction c with
  | nil => show (0 : Int) = 0 * n; rw [Int.zero_mul]
  | cons p c ih =>
    show (if p.1 = s then p.2 * n else 0) + tot (scaled c n) s = ((if p.1 = s then p.2 else 0) + tot c s) * n
    rw [ih, Int.add_mul]
    split
    · rfl
    · rw [Int.zero_mul]
/-- what a step changes -/
def dlt (t : Stx) (s : Str) : Int := tot t.2.2 s - tot t.2.1 s
theorem val_le {l : Ms} {B : Nat} (hb : ∀ p ∈ l, p.2.natAbs ≤ B) (s : Str) : (tot l s).natAbs ≤ l.length * B := by
  induction l with
  | nil => exact Nat.zero_le _
  | cons p l ih =>
    have h1 := ih fun q hq => hb q (List.mem_cons_of_mem _ hq)
    have h2 := hb p List.mem_cons_self
    show ((if p.1 = s then p.2 else 0) + tot l s).natAbs ≤ (l.length + 1) * B
    rw [Nat.add_mul]
    split <;> omega
theorem step_change_s {p : Pln} {t : Stx} (g : GoodP p) (hl : p.ts.length ≤ 14) (hpl : p.pl.length ≤ 20) (ht : t ∈ p.ts) (q : ∀ h : Ms, (∀ s, tot h s = dlt t s) → (∀ x ∈ h, x.1 ∈ p.pl ∧ x.2.natAbs < 2 ^ 60) → h.length ≤ 20 → Q (heapD h)) : F_step_change T [planD T p, .str t.1] Q R := by
  unfold F_step_change Fr_step_change
  have gt := g.ts.each t ht
  have b9 : ∀ {h : Hpx}, GoodS p.pl h → ∀ x ∈ h, x.2.natAbs ≤ 9 := fun gs x hx => by
    have := gs.ct x hx
    have := (gs.inn x hx).2
    omega
  refine ⟨rfl, step_of_s T (by omega) (fun u hu => (g.ts.each u hu).nm) (asc_nodup g.ts.asc) ht (ixt 1 rfl (ixt 2 rfl ⟨rfl, ?_⟩))⟩
  refine gap_s T gt.tk.len gt.ly.len (fun x hx => by have := b9 gt.tk x hx; omega) (ns := p.pl) (by omega) (fun x hx => (gt.tk.inn x hx).1) (fun x hx => (gt.ly.inn x hx).1) g.nm fun h1 h s1 s2 => ?_
  have sub1 : ∀ x ∈ scaled t.2.1 (-1), x.1 ∈ p.pl := fun x hx => by
    obtain ⟨z, hz, rfl⟩ := List.mem_map.mp hx
    exact (gt.tk.inn z hz).1
  have sub2 : ∀ x ∈ t.2.2 ++ h1, x.1 ∈ p.pl := fun x hx => by
    rcases List.mem_append.mp hx with hx | hx
    · exact (gt.ly.inn x hx).1
    · exact s1.sub sub1 x hx
  have td : ∀ s, tot h s = dlt t s := fun s => by
    rw [s2.tot, tot_app, s1.tot, tot_scaled]
    unfold dlt
    omega
  refine q h td (fun x hx => ⟨s2.sub sub2 x hx, ?_⟩) (by have := s2.len sub2; omega)
  have e : x.2 = dlt t x.1 := by rw [← td, tot_one (asc_nodup s2.asc) hx]
  have v1 := val_le (b9 gt.ly) x.1
  have v2 := val_le (b9 gt.tk) x.1
  have l1 := gt.ly.len
  have l2 := gt.tk.len
  have m1 : t.2.2.length * 9 ≤ 9000 := by omega
  have m2 : t.2.1.length * 9 ≤ 9000 := by omega
  rw [e]
  unfold dlt
  omega
end
end K09
set_option maxRecDepth 100000
set_option maxHeartbeats 1000000
namespace K09
open PySem PySem.Spec PyProof.Rows L2 Pre Pd

section
variable {P : Program} {w : World} {K : PySem.W.Frag} {mg : Str → Option Value} {base : Heap} (T : Tx K mg) {Q : D → Prop} {R : Err → Prop}
abbrev Prs := List (Stx × Int)
def prD (x : Stx × Int) : D := pairD (x.1.1, x.2)
def totP (ps : Prs) (s : Str) : Int := (ps.map fun x => dlt x.1 s * x.2).sum
theorem tot_flat {as : List (Ms × (Stx × Int))} {s : Str} (h : ∀ a ∈ as, tot a.1 s = dlt a.2.1 s * a.2.2) : tot (as.map (·.1)).flatten s = totP (as.map (·.2)) s := by
  induction as with
  | nil => rfl
  | cons a as ih =>
    rw [List.map_cons, List.flatten_cons, tot_app, h a List.mem_cons_self, ih fun b hb => h b (List.mem_cons_of_mem _ hb)]
    rfl
theorem sum_change_s {p : Pln} {ps : Prs} (g : GoodP p) (hl : p.ts.length ≤ 14) (hpl : p.pl.length ≤ 20) (hps : ps.length ≤ 14) (hin : ∀ x ∈ ps, x.1 ∈ p.ts ∧ x.2.natAbs ≤ 10 ^ 12) (q : ∀ l h : Ms, (∀ s, tot l s = totP ps s) → Sm true l h → Q (heapD h)) : F_sum_change T [planD T p, .tup (ps.map prD)] Q R := by
  unfold F_sum_change Fr_sum_change
  refine lc_rel (fun i y => ∃ a : Ms × (Stx × Int), ps[i]? = some a.2 ∧ ((∀ x ∈ a.1, x.1 ∈ p.pl) ∧ a.1.length ≤ 20 ∧ ∀ s, tot a.1 s = dlt a.2.1 s * a.2.2) ∧ y = heapD a.1) (small _ (by rw [List.length_map]; omega)) (fun i d Q' hd hq => ?_) fun ys hy1 hy2 => ?_
  · obtain ⟨x, hx, rfl⟩ := map_at hd
    obtain ⟨h1, h2⟩ := hin x (List.mem_of_getElem? hx)
    refine ⟨_, rfl, rfl, step_change_s T g hl hpl h1 fun h ht hb hh => ⟨rfl, ?_⟩⟩
    refine change_times_s T (by omega) (by omega) (fun z hz => (hb z hz).2) (ns := p.pl) (by omega) (fun z hz => (hb z hz).1) g.nm fun h' s' => hq _ ⟨(h', x), hx, ?_, rfl⟩
    have sub : ∀ z ∈ scaled h x.2, z.1 ∈ p.pl := fun z hz => by
      obtain ⟨u, hu, rfl⟩ := List.mem_map.mp hz
      exact (hb u hu).1
    refine ⟨s'.sub sub, by have := s'.len sub; show h'.length ≤ 20; omega, fun s => ?_⟩
    show tot h' s = dlt x.1 s * x.2
    rw [s'.tot, tot_scaled, ht]
  · rw [List.length_map] at hy1
    obtain ⟨as, rfl, e2, e3⟩ := choose_list (fun a : Ms × (Stx × Int) => heapD a.1) (fun a => a.2) (fun a => (∀ x ∈ a.1, x.1 ∈ p.pl) ∧ a.1.length ≤ 20 ∧ ∀ s, tot a.1 s = dlt a.2.1 s * a.2.2) hy1 hy2
    have e : as.map (fun a : Ms × (Stx × Int) => heapD a.1) = (as.map (·.1)).map heapD := by rw [List.map_map]; rfl
    have la : as.length = ps.length := by rw [← e2, List.length_map]
    have fl : ∀ (bs : List (Ms × (Stx × Int))), (∀ a ∈ bs, a.1.length ≤ 20) → (bs.map (·.1)).flatten.length ≤ 20 * bs.length := by
      intro bs
      induction bs with
      | nil => intro _; exact Nat.le_refl _
      | cons b bs ih =>
        intro h
        rw [List.map_cons, List.flatten_cons, List.length_append, List.length_cons]
        have := ih fun a ha => h a (List.mem_cons_of_mem _ ha)
        have := h b List.mem_cons_self
        omega
    refine ⟨rfl, joined_s T (d := .lst (as.map fun a : Ms × (Stx × Int) => heapD a.1)) (hs := as.map (·.1)) (by rw [e]; rfl) (by have := fl as fun a ha => (e3 a ha).2.1; omega) (ns := p.pl) (by omega) (fun x hx => ?_) g.nm fun h s => q _ h (fun t => ?_) s⟩
    · obtain ⟨l, hl1, hl2⟩ := List.mem_flatten.mp hx
      obtain ⟨a, ha, rfl⟩ := List.mem_map.mp hl1
      exact (e3 a ha).1 x hl2
    · rw [tot_flat fun a ha => (e3 a ha).2.2 t, e2]
end
end K09
set_option maxRecDepth 100000
set_option maxHeartbeats 1000000
namespace K09
open PySem PySem.Spec PyProof.Rows L2 Pre Pd
theorem daccM_ok {i ik ia ib : Nat} {sub : Bool} {env : En} {m : Ms} {s : Str} {a b : Int} {P : Out → Prop} (he : env[i]? = some (.k (kOf m) (vOf m))) (hk : env[ik]? = some (.v (.str s))) (ha : env[ia]? = some (.v (.int a))) (hb : env[ib]? = some (.v (.int b))) (hm : CMulW a b) (hl : m.length < 10000)
    (k : P (.nx (env.set i (.k (kOf (put m s (at0 m s + (if sub then -(a * b) else a * b)))) (vOf (put m s (at0 m s + (if sub then -(a * b) else a * b)))))))) : wDPut i (wVar ik) (wOp (if sub then φSub else φAdd) (wDGet i (wVar ik) (wC (.int 0))) (wOp φMul (wVar ia) (wVar ib))) env P := by
  have e1 : envDic env i = some (kOf m, vOf m) := by unfold envDic; rw [he]
  unfold wDPut wOp wDGet wVar wC
  simp only [e1, hk, ha, hb, he, keyOf]
  rw [dget_at]
  cases sub
  · simp only [φAdd, φMul, dput_put, Bool.false_eq_true, if_false] at k ⊢
    exact ⟨hm, by unfold kOf; rw [List.length_map, sizeLine_eq]; omega, k⟩
  · simp only [φSub, φI0, φMul, dput_put, if_true] at k ⊢
    rw [← Int.sub_eq_add_neg] at k
    exact ⟨hm, by unfold kOf; rw [List.length_map, sizeLine_eq]; omega, k⟩
theorem dput_new {ks : List Key} {ds : List D} {k : Key} {d : D} (h : k ∉ ks) : dput ks ds k d = (ks ++ [k], ds ++ [d]) := by
  unfold dput
  rw [if_neg]
  intro hh
  obtain ⟨x, hx, e⟩ := List.any_eq_true.mp hh
  exact h (of_decide_eq_true e ▸ hx)
theorem putAll_nd : ∀ (ps : List (Key × D)) (ks : List Key) (ds : List D), (ks ++ ps.map (·.1)).Nodup → putAll (ks, ds) ps = (ks ++ ps.map (·.1), ds ++ ps.map (·.2))
  | [], ks, ds, _ => by simp [Pd.putAll]
  | p :: ps, ks, ds, h => by
    have hn : p.1 ∉ ks := fun hm => by
      rw [List.nodup_append] at h
      exact h.2.2 p.1 hm p.1 (by simp) rfl
    show putAll (dput ks ds p.1 p.2) ps = _
    rw [dput_new hn, putAll_nd ps _ _ (by simpa using h)]
    simp
theorem pairsOf_steps (ts : List Stx) : pairsOf (ts.map fun t => .tup [.str t.1, stepD t]) = some (ts.map fun t => (Sum.inr t.1, stepD t)) := by
  induction ts with
  | nil => rfl
  | cons t ts ih =>
    rw [List.map_cons, List.map_cons]
    unfold Pd.pairsOf
    rw [ih]
    rfl
theorem dget_step {ts : List Stx} (nd : (ts.map (·.1)).Nodup) {t : Stx} (ht : t ∈ ts) : dget (ts.map fun t => (Sum.inr t.1 : Key)) (ts.map stepD) (.inr t.1) = some (stepD t) := by
  induction ts with
  | nil => cases ht
  | cons u ts ih =>
    rw [List.map_cons, List.nodup_cons] at nd
    show (if (Sum.inr u.1 : Key) = .inr t.1 then some (stepD u) else dget (ts.map fun t => (Sum.inr t.1 : Key)) (ts.map stepD) (.inr t.1)) = some (stepD t)
    rcases List.mem_cons.mp ht with e | h
    · rw [e, if_pos rfl]
    · rw [if_neg fun e => nd.1 (by injection e with e; rw [e]; exact List.mem_map_of_mem h)]
      exact ih nd.2 h
/-- what a pair gives -/
def cL (x : Stx × Int) : Ms := x.1.2.1.map (fun p => (p.1, -(x.2 * p.2))) ++ x.1.2.2.map (fun p => (p.1, x.2 * p.2))
theorem tot_times (l : Ms) (a : Int) (s : Str) : tot (l.map fun p => (p.1, a * p.2)) s = tot l s * a := by
  induction l with
  | nil => show (0 : Int) = 0 * a; rw [Int.zero_mul]
  | cons p l ih =>
    show (if p.1 = s then a * p.2 else 0) + tot (l.map fun p => (p.1, a * p.2)) s = ((if p.1 = s then p.2 else 0) + tot l s) * a
    rw [ih, Int.add_mul]
    split
    · rw [Int.mul_comm a]
    · rw [Int.zero_mul]
theorem tot_neg (l : Ms) (a : Int) (s : Str) : tot (l.map fun p => (p.1, -(a * p.2))) s = -(tot l s * a) := by
  have e : (l.map fun p => (p.1, -(a * p.2))) = l.map fun p => (p.1, (-a) * p.2) := by
    apply List.map_congr_left
    intro p _
    rw [Int.neg_mul]
  rw [e, tot_times, Int.mul_neg]
theorem tot_cL (x : Stx × Int) (s : Str) : tot (cL x) s = dlt x.1 s * x.2 := by
  unfold cL dlt
  rw [tot_app, tot_neg, tot_times, Int.sub_mul]
  omega
theorem tot_cLs (ps : Prs) (s : Str) : tot (ps.map cL).flatten s = totP ps s := by
  induction ps with
  | nil => rfl
  | cons x ps ih =>
    rw [List.map_cons, List.flatten_cons, tot_app, tot_cL, ih]
    rfl
end K09
set_option maxRecDepth 100000
set_option maxHeartbeats 1000000
namespace K09
open PySem PySem.Spec PyProof.Rows L2 Pre Pd

section
variable {P : Program} {w : World} {K : PySem.W.Frag} {mg : Str → Option Value} {base : Heap} (T : Tx K mg) {Q : D → Prop} {R : Err → Prop}
theorem dictP_steps {ts : List Stx} (nd : (ts.map (·.1)).Nodup) {Q' : List Key × List D → Prop} (q : Q' (ts.map fun t => (Sum.inr t.1 : Key), ts.map stepD)) : φDictP [.lst (ts.map fun t => .tup [.str t.1, stepD t])] Q' := by
  unfold φDictP
  simp only [pairsOf_steps]
  rw [putAll_nd _ _ _ (by
    rw [List.nil_append, List.map_map]
    have e : (ts.map ((fun x : Key × D => x.1) ∘ fun t : Stx => (Sum.inr t.1, stepD t))) = (ts.map (·.1)).map Sum.inr := by rw [List.map_map]; rfl
    rw [e]
    rw [List.nodup_iff_pairwise_ne, List.pairwise_map]
    rw [List.nodup_iff_pairwise_ne] at nd
    exact nd.imp fun {a b} h z => h (by injection z))]
  rw [List.nil_append, List.nil_append, List.map_map, List.map_map]
  exact q
theorem dixD_ok {i ik : Nat} {env : En} {ks : List Key} {ds : List D} {s : Str} {d : D} {P' : D → Prop} (he : envDic env i = some (ks, ds)) (hk : env[ik]? = some (.v (.str s))) (hs : dget ks ds (.inr s) = some d) (k : P' d) : wDIx i (wVar ik) env P' R := by
  unfold wDIx wVar
  simp only [he, hk, keyOf]
  rw [hs]
  exact k
/-- one side of a step, its papers counted in -/
theorem side_ok {sub : Bool} {ix : Int} {p : Pln} {t : Stx} {n : Int} {L m : Ms} {e0 : Sl} {e1 : D} {a b c : Sl} {h : Hpx} {kn : Sl} {P' : Out → Prop} (u : Upto L m) (hL : ∀ x ∈ L, x.1 ∈ p.pl) (hpl : p.pl.length ≤ 20) (hh : GoodS p.pl h) (hn : n.natAbs ≤ 10 ^ 12)
    (hix : ∀ {Q' : D → Prop} {R' : Err → Prop} {a b : Sl} {m : Ms}, Q' (heapD h) → wOp φIxU (wDIx 3 (wVar 4)) (wC (.int ix)) [e0, .v e1, .k (kOf m) (vOf m), kn, .v (.str t.1), .v (.int n), a, b, c] Q' R')
    (k : ∀ (m' : Ms) (a b : Sl), Upto (L ++ h.map fun x => (x.1, if sub then -(n * x.2) else n * x.2)) m' → P' (.nx [e0, .v e1, .k (kOf m') (vOf m'), kn, .v (.str t.1), .v (.int n), a, b, c])) :
    wFor (wWalk (wOp φIxU (wDIx 3 (wVar 4)) (wC (.int ix)))) (sTup 2 (sCons (sName 6) (sCons (sName 7) sNil))) (fun env P => (∃ ks ds, env[2]? = some (.k ks ds)) ∧ wDPut 2 (wVar 6) (wOp (if sub then φSub else φAdd) (wDGet 2 (wVar 6) (wC (.int 0))) (wOp φMul (wVar 5) (wVar 7))) env P)
      [e0, .v e1, .k (kOf m) (vOf m), kn, .v (.str t.1), .v (.int n), a, b, c] P' := by
  refine for_inv (h.map pairD) (by exact fun Q' R' q => hix q) (fun i e => ∃ (m' : Ms) (a b : Sl), e = [e0, .v e1, .k (kOf m') (vOf m'), kn, .v (.str t.1), .v (.int n), a, b, c] ∧ Upto (L ++ (h.take i).map fun x => (x.1, if sub then -(n * x.2) else n * x.2)) m') ⟨m, a, b, rfl, by simpa using u⟩ ?_ ?_
  · rintro i d e0 Q' hd ⟨m', a, b, rfl, u'⟩ hq
    obtain ⟨x, hx, rfl⟩ := map_at hd
    have hm := List.mem_of_getElem? hx
    have ml : m'.length ≤ p.pl.length := by
      have := sub_len (m := p.pl) u'.nd fun s hs => by
        obtain ⟨e, he, rfl⟩ := List.mem_map.mp ((u'.mem s).mp hs)
        rcases List.mem_append.mp he with he | he
        · exact hL e he
        · obtain ⟨z, hz, rfl⟩ := List.mem_map.mp he
          exact (hh.inn z (List.mem_of_mem_take hz)).1
      rwa [List.length_map] at this
    have x9 : x.2.natAbs < 2 ^ 20 := by
      have := hh.ct x hm
      have := (hh.inn x hm).2
      omega
    refine ⟨_, rfl, ⟨_, _, rfl⟩, daccM_ok rfl rfl rfl rfl (mulOk 60 20 (by omega) x9) (by omega) (hq.nx _ ⟨_, _, _, rfl, ?_⟩)⟩
    have := u'.step (x.1, if sub then -(n * x.2) else n * x.2)
    rw [List.take_add_one, hx, List.map_append, ← List.append_assoc]
    exact this
  · rintro e ⟨m', a, b, rfl, u'⟩
    rw [List.length_map, List.take_length] at u'
    exact k m' a b u'
theorem law_change_s {p : Pln} {ps : Prs} (g : GoodP p) (hl : p.ts.length ≤ 14) (hpl : p.pl.length ≤ 20) (hps : ps.length ≤ 14) (hin : ∀ x ∈ ps, x.1 ∈ p.ts ∧ x.2.natAbs ≤ 10 ^ 12) (q : ∀ l h : Ms, (∀ s, tot l s = totP ps s) → Sm true l h → Q (heapD h)) : F_law_change T [stepsD p.ts, .lst (ps.map prD)] Q R := by
  unfold F_law_change Fr_law_change
  have nd := asc_nodup g.ts.asc
  refine lc_map (fun d => .tup [fstD d, d]) (small _ (by rw [List.length_map]; omega)) (fun d hd Q' hq => ?_) ?_
  · obtain ⟨t, ht, rfl⟩ := List.mem_map.mp hd
    exact ⟨_, rfl, ixt 0 rfl ⟨small 2, hq⟩⟩
  have e0 : (p.ts.map stepD).map (fun d => D.tup [fstD d, d]) = p.ts.map fun t => .tup [.str t.1, stepD t] := by rw [List.map_map]; rfl
  rw [e0]
  refine dictP_steps nd ?_
  have subL : ∀ x ∈ ps, ∀ z ∈ cL x, z.1 ∈ p.pl := fun x hx z hz => by
    have gt := g.ts.each x.1 (hin x hx).1
    rcases List.mem_append.mp hz with h | h
    · obtain ⟨u, hu, rfl⟩ := List.mem_map.mp h
      exact (gt.tk.inn u hu).1
    · obtain ⟨u, hu, rfl⟩ := List.mem_map.mp h
      exact (gt.ly.inn u hu).1
  refine for_inv (ps.map prD) (by exact fun Q' R' k => k) (fun i e => ∃ (m : Ms) (a b c d : Sl), e = [.v (stepsD p.ts), .v (.lst (ps.map prD)), .k (kOf m) (vOf m), .v (.dic (p.ts.map fun t => (Sum.inr t.1 : Key)) (p.ts.map stepD)), a, b, c, d, .no] ∧ Upto ((ps.take i).map cL).flatten m) ⟨[], _, _, _, _, rfl, upto_nil⟩ ?_ ?_
  · rintro i d e0 Q' hd ⟨m, a, b, c, d', rfl, u⟩ hq
    obtain ⟨x, hx, rfl⟩ := map_at hd
    have hm := List.mem_of_getElem? hx
    obtain ⟨h1, h2⟩ := hin x hm
    have gt := g.ts.each x.1 h1
    have hL : ∀ z ∈ ((ps.take i).map cL).flatten, z.1 ∈ p.pl := fun z hz => by
      obtain ⟨l, hl1, hl2⟩ := List.mem_flatten.mp hz
      obtain ⟨y, hy, rfl⟩ := List.mem_map.mp hl1
      exact subL y (List.mem_of_mem_take hy) z hl2
    refine ⟨_, rfl, ?_⟩
    refine side_ok (sub := true) (ix := 1) (t := x.1) (n := x.2) (h := x.1.2.1) u hL hpl gt.tk h2 (fun k => dixD_ok rfl rfl (dget_step nd h1) (ixt 1 rfl k)) fun m1 a1 b1 u1 => ?_
    refine side_ok (sub := false) (ix := 2) (t := x.1) (n := x.2) (h := x.1.2.2) u1 (fun z hz => ?_) hpl gt.ly h2 (fun k => dixD_ok rfl rfl (dget_step nd h1) (ixt 2 rfl k)) fun m2 a2 b2 u2 => hq.nx _ ⟨m2, _, _, _, _, rfl, ?_⟩
    · rcases List.mem_append.mp hz with h | h
      · exact hL z h
      · obtain ⟨v, hv, rfl⟩ := List.mem_map.mp h
        exact (gt.tk.inn v hv).1
    · have e : ((ps.take (i + 1)).map cL).flatten = ((ps.take i).map cL).flatten ++ cL x := by
        rw [List.take_add_one, hx, List.map_append, List.flatten_append]
        simp
      rw [e]
      unfold cL
      rw [← List.append_assoc]
      exact u2
  · rintro e ⟨m, a, b, c, d, rfl, u⟩
    rw [List.length_map, List.take_length] at u
    have ml : m.length ≤ p.pl.length := by
      have := sub_len (m := p.pl) u.nd fun s hs => by
        obtain ⟨e, he, rfl⟩ := List.mem_map.mp ((u.mem s).mp hs)
        obtain ⟨l, hl1, hl2⟩ := List.mem_flatten.mp he
        obtain ⟨y, hy, rfl⟩ := List.mem_map.mp hl1
        exact subL y hy e hl2
      rwa [List.length_map] at this
    have ek : (kOf m).map dOf = (m.map (·.1)).map D.str := by unfold kOf; rw [List.map_map, List.map_map]; rfl
    show φSorted [.lst ((kOf m).map dOf)] _
    rw [ek]
    refine sorted_strs u.nd fun ks h1 h2 => ?_
    have hin' : ∀ s ∈ ks, has m s = true := fun s hs => has_iff.mpr (h1.mem_iff.mp hs)
    refine lc_sel (fun d => match d with | .str s => !(at0 m s == 0) | _ => false) (fun d => match d with | .str s => pairD (s, at0 m s) | y => y) (small _ (by rw [List.length_map, h1.length_eq, List.length_map]; omega)) (fun d hd => ?_) ?_
    · obtain ⟨s, hs, rfl⟩ := List.mem_map.mp hd
      refine ⟨_, rfl, fun Q' hq => dix_ok (m := m) (s := s) rfl rfl (hin' s hs) (eq_ok rfl rfl leR leR hq), fun _ Q' hq => dix_ok (m := m) (s := s) rfl rfl (hin' s hs) ⟨small 2, hq⟩⟩
    · have e : ((ks.map D.str).filter (fun d => match d with | .str s => !(at0 m s == 0) | _ => false)).map (fun d => match d with | .str s => pairD (s, at0 m s) | y => y) = ((ks.filter fun s => !(at0 m s == 0)).map fun s => (s, at0 m s)).map pairD := by
        rw [List.filter_map, List.map_map, List.map_map]
        rfl
      rw [e]
      have en : ((ks.filter fun s => !(at0 m s == 0)).map fun s => (s, at0 m s)).map (·.1) = ks.filter fun s => !(at0 m s == 0) := by
        rw [List.map_map]
        exact List.map_id _
      refine q (ps.map cL).flatten _ (tot_cLs ps) ⟨?_, fun s => ?_, fun z hz => ?_⟩
      · rw [en]
        exact h2.filter _
      · rw [en, List.mem_filter, h1.mem_iff, u.mem, u.val]
        simp
      · obtain ⟨s, hs, rfl⟩ := List.mem_map.mp hz
        exact u.val s
end
end K09
set_option maxRecDepth 100000
set_option maxHeartbeats 1000000
/-! the law's own folding, as mathematics -/
namespace K09
open PySem PySem.Spec PyProof.Rows L2 Pre Pd
def nmf (run : Ms) (i : Nat) : Str := ((run[i]?).map (·.1)).getD ""
def slc (run : Ms) (a b : Nat) : Int := (((run.take b).drop a).map (·.2)).sum
def grow (run : Ms) (ab : Nat × Nat) : Str × Int := (nmf run ab.1, slc run ab.1 ab.2)
def isH (run : Ms) (i : Nat) : Bool := decide (i = 0) || !decide (nmf run i = nmf run (i - 1))
def hds (run : Ms) (n : Nat) : List Nat := (List.range n).filter (isH run)
def res (run : Ms) (hs : List Nat) (n : Nat) : Ms := (hs.zip (hs.drop 1 ++ [n])).map (grow run)
theorem res_snoc (run : Ms) (hs : List Nat) (a n : Nat) : res run (hs ++ [a]) n = res run hs a ++ [grow run (a, n)] := by
  unfold res
  cases hs with
  | nil => rfl
  | cons x hs =>
    show (((x :: hs) ++ [a]).zip ((hs ++ [a]) ++ [n])).map (grow run) = _
    rw [List.zip_append (by simp), List.map_append]
    rfl
theorem hds_succ (run : Ms) (n : Nat) : hds run (n + 1) = if isH run n = true then hds run n ++ [n] else hds run n := by
  unfold hds
  rw [List.range_succ, List.filter_append]
  by_cases h : isH run n = true
  · rw [if_pos h, List.filter_cons_of_pos h]; rfl
  · rw [if_neg h, List.filter_cons_of_neg h]; simp
theorem slc_succ {run : Ms} {a n : Nat} {p : Str × Int} (h : a ≤ n) (hp : run[n]? = some p) : slc run a (n + 1) = slc run a n + p.2 := by
  unfold slc
  have hn := get_lt hp
  rw [List.take_add_one, hp, List.drop_append_of_le_length (by rw [List.length_take]; omega), List.map_append, List.sum_append]
  show _ + ([p.2] : List Int).sum = _
  simp
/-- behind n rows: the groups, and the last head's name -/
theorem fold_res (run : Ms) : ∀ n, n ≤ run.length → (run.take n).foldl fstep [] = res run (hds run n) n ∧ (0 < n → ∃ hs a, hds run n = hs ++ [a] ∧ a < n ∧ nmf run a = nmf run (n - 1))
  | 0, _ => ⟨rfl, fun h => absurd h (by decide)⟩
  | n + 1, hn => by
    obtain ⟨ih1, ih2⟩ := fold_res run n (by omega)
    obtain ⟨p, hp⟩ : ∃ p, run[n]? = some p := ⟨_, List.getElem?_eq_getElem (show n < run.length by omega)⟩
    have en : nmf run n = p.1 := by unfold nmf; rw [hp]; rfl
    have ef : (run.take (n + 1)).foldl fstep [] = fstep (res run (hds run n) n) p := by
      rw [List.take_add_one, hp, List.foldl_append, ih1]
      rfl
    have eg : grow run (n, n + 1) = p := by
      unfold grow
      rw [slc_succ (Nat.le_refl n) hp, en]
      have : slc run n n = 0 := by
        unfold slc
        rw [List.drop_eq_nil_of_le (by rw [List.length_take]; omega)]
        rfl
      rw [this, Int.zero_add]
    by_cases hh : isH run n = true
    · have e1 : hds run (n + 1) = hds run n ++ [n] := by rw [hds_succ, if_pos hh]
      refine ⟨?_, fun _ => ⟨hds run n, n, e1, by omega, rfl⟩⟩
      rw [ef, e1, res_snoc, eg]
      by_cases n0 : n = 0
      · subst n0
        rfl
      · obtain ⟨hs, a, h1, h2, h3⟩ := ih2 (by omega)
        rw [h1, res_snoc]
        unfold fstep
        rw [List.getLast?_concat]
        have ne : nmf run a ≠ p.1 := by
          rw [h3, ← en]
          unfold isH at hh
          rw [decide_eq_false n0, Bool.false_or] at hh
          intro e
          rw [decide_eq_true e.symm] at hh
          cases hh
        show (if nmf run a = p.1 then _ else _) = _
        rw [if_neg ne]
    · have e1 : hds run (n + 1) = hds run n := by rw [hds_succ, if_neg hh]
      have n0 : n ≠ 0 := fun e => hh (by unfold isH; rw [decide_eq_true e]; rfl)
      have es : nmf run n = nmf run (n - 1) := by
        by_cases e : nmf run n = nmf run (n - 1)
        · exact e
        · exact absurd (by unfold isH; rw [decide_eq_false n0, decide_eq_false e]; rfl) hh
      obtain ⟨hs, a, h1, h2, h3⟩ := ih2 (by omega)
      refine ⟨?_, fun _ => ⟨hs, a, by rw [e1, h1], by omega, ?_⟩⟩
      · rw [ef, e1, h1, res_snoc, res_snoc]
        unfold fstep
        rw [List.getLast?_concat]
        have eq : nmf run a = p.1 := by rw [h3, ← es, en]
        show (if nmf run a = p.1 then _ else _) = _
        rw [if_pos eq, List.dropLast_concat]
        refine congrArg (res run hs a ++ [·]) ?_
        show (p.1, p.2 + slc run a n) = (nmf run a, slc run a (n + 1))
        rw [slc_succ (by omega) hp, eq, Int.add_comm]
      · show nmf run a = nmf run n
        rw [h3, es]
end K09
set_option maxRecDepth 100000
set_option maxHeartbeats 1000000
namespace K09
open PySem PySem.Spec PyProof.Rows L2 Pre Pd
theorem cut_both {ds : List D} {a b : Nat} (ha : a ≤ ds.length) (hb : b ≤ ds.length) : Pd.cutD ds (some (a : Int)) (some (b : Int)) = (ds.take b).drop a := by
  unfold Pd.cutD
  rw [HT.sIx_nat, HT.sIx_nat, Nat.min_eq_left ha, Nat.min_eq_left hb, List.drop_take]
theorem cut_hi1 {ds : List D} : Pd.cutD ds (some 1) none = ds.drop 1 := by
  by_cases h : 1 ≤ ds.length
  · exact cut_hi (k := 1) h
  · have : ds = [] := List.eq_nil_of_length_eq_zero (by omega)
    subst this
    unfold Pd.cutD
    simp
theorem zip_ints : ∀ (xs ys : List Nat), zipD (xs.map fun n : Nat => D.int (n : Int)) (ys.map fun n : Nat => D.int (n : Int)) = (xs.zip ys).map fun p => D.tup [.int (p.1 : Int), .int (p.2 : Int)]
  | [], _ => by simp [zipD]
  | _ :: _, [] => by simp [zipD]
  | x :: xs, y :: ys => by simp only [List.map_cons, zipD, List.zip_cons_cons]; rw [zip_ints xs ys]
theorem nmf_at {run : Ms} {i : Nat} {p : Str × Int} (h : run[i]? = some p) : nmf run i = p.1 := by unfold nmf; rw [h]; rfl
theorem res_len (run : Ms) (hs : List Nat) (n : Nat) : (res run hs n).length ≤ hs.length := by
  unfold res
  rw [List.length_map, List.length_zip]
  omega
theorem hds_len (run : Ms) (n : Nat) : (hds run n).length ≤ n := by
  unfold hds
  exact Nat.le_trans (List.length_filter_le _ _) (by rw [List.length_range]; exact Nat.le_refl _)
theorem hds_lt {run : Ms} {n i : Nat} (h : i ∈ hds run n) : i < n := by
  unfold hds at h
  exact List.mem_range.mp (List.mem_filter.mp h).1

section
variable {P : Program} {w : World} {K : PySem.W.Frag} {mg : Str → Option Value} {base : Heap} (T : Tx K mg) {Q : D → Prop} {R : Err → Prop}
theorem law_folded_s {run : Ms} (hl : run.length ≤ 1000) (nm : ∀ p ∈ run, PyData.strOk p.1 = true) (q : Q (heapD (res run (hds run run.length) run.length))) : F_law_folded T [heapD run] Q R := by
  unfold F_law_folded Fr_law_folded
  refine lc_map (fun d => fstD d) (small _ (by rw [List.length_map]; omega)) (fun d hd Q' hq => ?_) ?_
  · obtain ⟨p, hp, rfl⟩ := List.mem_map.mp hd
    exact ⟨_, rfl, ixt 0 rfl hq⟩
  have e1 : (run.map pairD).map (fun d => fstD d) = (run.map (·.1)).map D.str := by rw [List.map_map, List.map_map]; rfl
  rw [e1]
  have lr : (run.map pairD).length = run.length := List.length_map _
  refine ⟨⟨by omega, by show ((run.map pairD).length : Int) < 2 ^ 62; omega⟩, ?_⟩
  have er : rangeD 0 ((run.map pairD).length : Int).toNat = (List.range run.length).map fun n : Nat => D.int (n : Int) := by
    rw [lr]
    unfold rangeD
    simp
  show wLc _ _ _ _ (rangeD 0 ((run.map pairD).length : Int).toNat) _ _ _ _
  rw [er]
  refine lc_sel (fun d => match d with | .int i => isH run i.toNat | _ => false) (fun d => d) (small _ (by rw [List.length_map, List.length_range]; omega)) (fun d hd => ?_) ?_
  · obtain ⟨i, hi, rfl⟩ := List.mem_map.mp hd
    have hi : i < run.length := List.mem_range.mp hi
    refine ⟨_, rfl, fun Q' hq => ?_, fun _ Q' hq => hq⟩
    have hq : Q' (isH run i) := hq
    refine eq_ok rfl rfl leR leR ?_
    by_cases i0 : i = 0
    · subst i0
      refine wT rfl ?_
      exact hq
    · refine wF (by show decide ((i : Int) = 0) = false; exact decide_eq_false (by omega)) ?_
      obtain ⟨p, hp⟩ : ∃ p, run[i]? = some p := ⟨_, List.getElem?_eq_getElem hi⟩
      obtain ⟨p', hp'⟩ : ∃ p', run[i - 1]? = some p' := ⟨_, List.getElem?_eq_getElem (show i - 1 < run.length by omega)⟩
      refine ixl i (by rw [List.getElem?_map, List.getElem?_map, hp]; rfl) (ixl (i - 1) (by rw [List.getElem?_map, List.getElem?_map, hp']; rfl) (eq_ok (x := .str p.1) (y := .str p'.1) (nm p (List.mem_of_getElem? hp)) (nm p' (List.mem_of_getElem? hp')) leR leR ?_))
      have ee : eqD (.str p.1) (.str p'.1) = decide (p.1 = p'.1) := by
        show (p.1 == p'.1) = _
        rw [Bool.eq_iff_iff, beq_iff_eq, decide_eq_true_iff]
      have hh : isH run i = !eqD (.str p.1) (.str p'.1) := by
        unfold isH
        rw [decide_eq_false i0, Bool.false_or, nmf_at hp, nmf_at hp', ee]
      rw [hh] at hq
      exact hq
  have ef : (((List.range run.length).map fun n : Nat => D.int (n : Int)).filter (fun d => match d with | .int i => isH run i.toNat | _ => false)).map (fun d => d) = (hds run run.length).map fun n : Nat => D.int (n : Int) := by
    rw [List.map_id', List.filter_map]
    rfl
  rw [ef]
  have hh := hds_len run run.length
  refine ⟨small 1, ?_⟩
  rw [cut_hi1]
  refine ⟨small _ (by rw [List.length_drop, List.length_map]; show _ - 1 + 1 ≤ 100000; omega), ?_⟩
  have ee : ((hds run run.length).map fun n : Nat => D.int (n : Int)).drop 1 ++ [D.int ((run.map pairD).length : Int)] = ((hds run run.length).drop 1 ++ [run.length]).map fun n : Nat => D.int (n : Int) := by
    rw [List.map_append, List.map_drop, lr]
    rfl
  show wLc _ _ _ _ (zipD _ (((hds run run.length).map fun n : Nat => D.int (n : Int)).drop 1 ++ [D.int ((run.map pairD).length : Int)])) _ _ _ _
  rw [ee, zip_ints]
  refine lc_map (fun d => match d with | .tup [.int a, .int b] => pairD (grow run (a.toNat, b.toNat)) | y => y) (small _ (by rw [List.length_map, List.length_zip]; omega)) (fun d hd Q' hq => ?_) ?_
  · obtain ⟨⟨a, b⟩, hab, rfl⟩ := List.mem_map.mp hd
    have h1 : a ∈ hds run run.length := (List.of_mem_zip hab).1
    have h2 := (List.of_mem_zip hab).2
    have ha := hds_lt h1
    have hb : b ≤ run.length := by
      rcases List.mem_append.mp h2 with h | h
      · exact Nat.le_of_lt (hds_lt (List.mem_of_mem_drop h))
      · rw [List.mem_singleton.mp h]
        exact Nat.le_refl _
    obtain ⟨p, hp⟩ : ∃ p, run[a]? = some p := ⟨_, List.getElem?_eq_getElem ha⟩
    refine ⟨_, rfl, ixl a (by rw [List.getElem?_map, List.getElem?_map, hp]; rfl) ?_⟩
    show wLc _ _ _ _ (Pd.cutD (run.map pairD) (some (a : Int)) (some (b : Int))) _ _ _ _
    rw [cut_both (by omega) (by omega)]
    refine lc_map (fun d => match d with | .tup [_, y] => y | y => y) (small _ (by rw [List.length_drop, List.length_take, List.length_map]; omega)) (fun d hd Q' hq => ?_) ?_
    · obtain ⟨p, hp, rfl⟩ := List.mem_map.mp (List.mem_of_mem_take (List.mem_of_mem_drop hd))
      exact ⟨_, rfl, ixt 1 rfl hq⟩
    · have es : (((run.map pairD).take b).drop a).map (fun d => match d with | .tup [_, y] => y | y => y) = (((run.take b).drop a).map (·.2)).map D.int := by
        rw [← List.map_take, ← List.map_drop, List.map_map, List.map_map]
        rfl
      rw [es]
      refine sum_ok (((run.take b).drop a).map (·.2)) rfl ?_
      refine ⟨small 2, ?_⟩
      have hq : Q' (pairD (nmf run a, slc run a b)) := hq
      rw [nmf_at hp] at hq
      exact hq
  · have eg : ((((hds run run.length).zip ((hds run run.length).drop 1 ++ [run.length])).map fun p => D.tup [.int (p.1 : Int), .int (p.2 : Int)])).map (fun d => match d with | .tup [.int a, .int b] => pairD (grow run (a.toNat, b.toNat)) | y => y) = (res run (hds run run.length) run.length).map pairD := by
      unfold res
      rw [List.map_map, List.map_map]
      rfl
    rw [eg]
    exact q
end
/-! folded once more: nothing changes -/
def noTwo : Ms → Prop
  | [] => True
  | [_] => True
  | a :: b :: t => a.1 ≠ b.1 ∧ noTwo (b :: t)
theorem noTwo_app : ∀ {l : Ms} {z p : Str × Int}, noTwo (l ++ [z]) → z.1 ≠ p.1 → noTwo (l ++ [z, p])
  | [], _, _, _, h => ⟨h, trivial⟩
  | [a], z, p, h, hn => ⟨h.1, hn, trivial⟩
  | a :: b :: t, z, p, h, hn => ⟨h.1, noTwo_app (l := b :: t) h.2 hn⟩
theorem noTwo_last : ∀ {l : Ms} {z : Str × Int} {v : Int}, noTwo (l ++ [z]) → noTwo (l ++ [(z.1, v)])
  | [], _, _, _ => trivial
  | [a], z, v, h => ⟨h.1, trivial⟩
  | a :: b :: t, z, v, h => ⟨h.1, noTwo_last (l := b :: t) h.2⟩
theorem last_split {l : Ms} {z : Str × Int} (h : l.getLast? = some z) : l = l.dropLast ++ [z] := by
  have ne : l ≠ [] := by rintro rfl; simp at h
  have e := List.dropLast_concat_getLast ne
  rw [List.getLast?_eq_some_getLast ne] at h
  rw [Option.some.inj h] at e
  exact e.symm
theorem noTwo_step {acc : Ms} {p : Str × Int} (h : noTwo acc) : noTwo (fstep acc p) := by
  unfold fstep
  cases hg : acc.getLast? with
  | none =>
    have : acc = [] := List.getLast?_eq_none_iff.mp hg
    subst this
    exact trivial
  | some z =>
    have e := last_split hg
    show noTwo (if z.1 = p.1 then _ else _)
    rw [e] at h
    by_cases hz : z.1 = p.1
    · rw [if_pos hz]
      have := noTwo_last (v := p.2 + z.2) h
      rw [hz] at this
      exact this
    · rw [if_neg hz]
      have := noTwo_app h hz
      rw [e]
      simpa using this
theorem noTwo_fold : ∀ (l acc : Ms), noTwo acc → noTwo (l.foldl fstep acc)
  | [], _, h => h
  | p :: l, acc, h => noTwo_fold l _ (noTwo_step h)
theorem noTwo_tail : ∀ {l m : Ms}, noTwo (l ++ m) → noTwo m
  | [], _, h => h
  | [a], [], h => trivial
  | [a], b :: m, h => h.2
  | a :: b :: t, m, h => noTwo_tail (l := b :: t) h.2
theorem fold_same : ∀ (l acc : Ms), noTwo (acc ++ l) → l.foldl fstep acc = acc ++ l
  | [], acc, _ => by simp
  | p :: l, acc, h => by
    have e : fstep acc p = acc ++ [p] := by
      unfold fstep
      cases hg : acc.getLast? with
      | none =>
        have : acc = [] := List.getLast?_eq_none_iff.mp hg
        subst this
        rfl
      | some z =>
        have e := last_split hg
        rw [e, List.append_assoc] at h
        have h2 : noTwo (z :: p :: l) := noTwo_tail h
        show (if z.1 = p.1 then _ else _) = _
        rw [if_neg h2.1]
    show l.foldl fstep (fstep acc p) = _
    rw [e, fold_same l (acc ++ [p]) (by rw [List.append_assoc]; exact h), List.append_assoc]
    rfl
theorem fold_twice (run : Ms) : (run.foldl fstep []).foldl fstep [] = run.foldl fstep [] := fold_same _ [] (noTwo_fold run [] trivial)
end K09
set_option maxRecDepth 100000
set_option maxHeartbeats 1000000
namespace K09
open PySem PySem.Spec PyProof.Rows L2 Pre Pd
theorem td_heap {h : Hpx} (g : ∀ p ∈ h, isName p.1 = true) (hl : h.length ≤ 100000) : Td 5 (heapD h) := .tup (fun d hd => by
  obtain ⟨p, hp, rfl⟩ := List.mem_map.mp hd
  refine .tup (fun d hd => ?_) (by simp)
  simp only [List.mem_cons, List.not_mem_nil, or_false] at hd
  rcases hd with rfl | rfl
  · exact .str (okD_str (g p hp))
  · exact .int _) (by rw [List.length_map]; exact hl)
/-- all in all, name by name -/
theorem sum_pick : ∀ {N : List Str} {s : Str} (v : Int), N.Nodup → s ∈ N → (N.map fun x => if s = x then v else 0).sum = v
  | [], _, _, _, h => by cases h
  | x :: N, s, v, nd, h => by
    rw [List.map_cons, List.sum_cons]
    rw [List.nodup_cons] at nd
    by_cases e : s = x
    · rw [if_pos e]
      have z : (N.map fun x => if s = x then v else 0).sum = 0 := by
        have : N.map (fun x => if s = x then v else 0) = N.map fun _ => (0 : Int) := List.map_congr_left fun y hy => if_neg (by
          rintro rfl
          exact nd.1 (e ▸ hy))
        rw [this]
        clear this nd h
        induction N with
        | nil => rfl
        | cons a N ih => rw [List.map_cons, List.sum_cons, ih]; rfl
      rw [z, Int.add_zero]
    · rw [if_neg e, sum_pick v nd.2 ((List.mem_cons.mp h).resolve_left e), Int.zero_add]
theorem sum_split (f g : Str → Int) : ∀ N : List Str, (N.map fun x => f x + g x).sum = (N.map f).sum + (N.map g).sum
  | [] => rfl
  | x :: N => by
    rw [List.map_cons, List.sum_cons, sum_split f g N, List.map_cons, List.sum_cons, List.map_cons, List.sum_cons]
    omega
theorem sum_tot : ∀ {l : Ms} {N : List Str}, N.Nodup → (∀ p ∈ l, p.1 ∈ N) → (N.map (tot l)).sum = (l.map (·.2)).sum
  | [], N, _, _ => by
    have : N.map (tot []) = N.map fun _ => (0 : Int) := rfl
    rw [this]
    clear this
    induction N with
    | nil => rfl
    | cons a N ih => rw [List.map_cons, List.sum_cons, ih (List.nodup_cons.mp (by assumption)).2 (by intro p hp; cases hp)]; rfl
  | p :: l, N, nd, h => by
    have e : tot (p :: l) = fun x => (if p.1 = x then p.2 else 0) + tot l x := by
      funext x
      rfl
    rw [e, sum_split, sum_pick p.2 nd (h p List.mem_cons_self), sum_tot nd fun q hq => h q (List.mem_cons_of_mem _ hq)]
    rfl
theorem Sm.sum {l h : Ms} (a : Sm false l h) : (h.map (·.2)).sum = (l.map (·.2)).sum := by
  have nd := asc_nodup a.asc
  rw [← sum_tot (l := l) nd fun p hp => (a.mem p.1).mpr ⟨List.mem_map.mpr ⟨p, hp, rfl⟩, fun z => by cases z⟩, List.map_map]
  exact congrArg List.sum (List.map_congr_left fun p hp => a.val p hp)
theorem tot_pos : ∀ {l : Ms} {s : Str}, (∀ p ∈ l, 1 ≤ p.2) → 0 ≤ tot l s ∧ (s ∈ l.map (·.1) → 1 ≤ tot l s)
  | [], s, _ => ⟨Int.le_refl _, fun h => by cases h⟩
  | p :: l, s, h => by
    obtain ⟨h1, h2⟩ := tot_pos (l := l) (s := s) fun q hq => h q (List.mem_cons_of_mem _ hq)
    have hp := h p List.mem_cons_self
    have e : tot (p :: l) s = (if p.1 = s then p.2 else 0) + tot l s := rfl
    rw [e]
    by_cases z : p.1 = s
    · rw [if_pos z]
      exact ⟨by omega, fun _ => by omega⟩
    · rw [if_neg z, Int.zero_add]
      refine ⟨h1, fun hm => h2 ?_⟩
      rw [List.map_cons, List.mem_cons] at hm
      exact hm.resolve_left fun q => z q.symm

section
variable {P : Program} {w : World} {K : PySem.W.Frag} {mg : Str → Option Value} {base : Heap} (T : Tx K mg) {Q : D → Prop} {R : Err → Prop}
/-- one of six numbers is drawn -/
theorem six_s {x y z : Int} (hx : x.natAbs ≤ 10 ^ 12) (hy : y.natAbs ≤ 10 ^ 12) (hz : z.natAbs ≤ 10 ^ 12) (q : ∀ n : Int, n.natAbs ≤ 10 ^ 12 → Q (.int n)) : F_law_pick T [dBox, .lst [.int 0, .int 1, .int (-1), .int x, .int y, .int z]] Q R := by
  refine pick_s T (ds := [.int 0, .int 1, .int (-1), .int x, .int y, .int z]) rfl (by simp) (by simp) fun d hd => ?_
  simp only [List.mem_cons, List.not_mem_nil, or_false] at hd
  rcases hd with rfl | rfl | rfl | rfl | rfl | rfl
  · exact q _ (by decide)
  · exact q _ (by decide)
  · exact q _ (by decide)
  · exact q _ hx
  · exact q _ hy
  · exact q _ hz
theorem mk_plan {p : Pln} (gp : GoodP p) {env : En} (he : env[2]? = some (.v (.tup [.tup (p.pl.map D.str), stepsD p.ts, .str p.st, .str p.en]))) {P' : D → Prop} (q : P' (planD T p)) : wMake T.Plan 4 (F_Plan_i T) (wCons (wOp φIxU (wVar 2) (wC (.int 0))) (wCons (wOp φIxU (wVar 2) (wC (.int 1))) (wCons (wOp φIxU (wVar 2) (wC (.int 2))) (wCons (wOp φIxU (wVar 2) (wC (.int 3))) wNil)))) env P' R := by
  unfold wMake
  refine var_ok (R := R) he ?_
  refine ixt 0 rfl ?_
  refine var_ok (R := R) he ?_
  refine ixt 1 rfl ?_
  refine var_ok (R := R) he ?_
  refine ixt 2 rfl ?_
  refine var_ok (R := R) he ?_
  refine ixt 3 rfl ?_
  exact ⟨rfl, Plan_s T gp q⟩
theorem law_s {ns : List Int} (hl : ns.length ≤ 63) : F_law T [.frz (ns.map D.int)] (fun d => d = .bl true) (fun _ => False) := by
  unfold F_law Fr_law
  refine ⟨rfl, box_s T hl (k := 0) (by decide) ⟨rfl, plan_s T fun p gp h14 h20 => ?_⟩⟩
  have nmt : ∀ t ∈ p.ts, isName t.1 = true := fun t ht => (gp.ts.each t ht).nm
  have nms : ∀ s ∈ p.ts.map (·.1), isName s = true := fun s hs => by
    obtain ⟨t, ht, rfl⟩ := List.mem_map.mp hs
    exact nmt t ht
  have nd : (p.ts.map (·.1)).Nodup := asc_nodup gp.ts.asc
  have nl : (p.ts.map (·.1)).length ≤ 14 := by rw [List.length_map]; exact h14
  refine mk_plan T gp (show _ = _ from ?_) ?_
  · rfl
  refine ixt 1 rfl (lc_map (fun d => fstD d) (small _ (by rw [List.length_map]; omega)) (fun d hd Q' hq => ?_) ?_)
  · obtain ⟨t, ht, rfl⟩ := List.mem_map.mp hd
    exact ⟨_, rfl, ixt 0 rfl hq⟩
  have e1 : (p.ts.map stepD).map (fun d => fstD d) = (p.ts.map (·.1)).map D.str := by rw [List.map_map, List.map_map]; rfl
  rw [e1]
  refine ⟨rfl, box_s T hl (k := 1) (by decide) ⟨rfl, run_s T (names := p.ts.map (·.1)) (by omega) nms fun run hr => ?_⟩⟩
  have len := hr.len
  have sub : ∀ x ∈ run, x.1 ∈ p.ts.map (·.1) := fun x hx => (hr.each x hx).1
  have nmr : ∀ x ∈ run, isName x.1 = true := fun x hx => nms _ (sub x hx)
  have okr : ∀ x ∈ run, PyData.strOk x.1 = true := fun x hx => okD_str (nmr x hx)
  refine ixt 1 rfl ⟨rfl, strange_s T h14 fun ss s1 s2 s3 => ⟨rfl, pick_str T s1 (by omega) fun s hs => ⟨rfl, needs_hold_s T h14 nms hr (s3 s hs).1 (s3 s hs).2.2 (wF rfl ?_)⟩⟩⟩
  refine ⟨rfl, law_sum_s T (ns := p.ts.map (·.1)) (by omega) (by omega) sub fun due sd => ?_⟩
  have dn : ∀ x ∈ due, isName x.1 = true := fun x hx => nms _ (sd.sub sub x hx)
  have dl : due.length ≤ 14 := Nat.le_trans (sd.len sub) nl
  have same : ∀ h, Sm true run h → h = due := fun h sh => sh.uniq sd (fun _ => rfl) fun s => by
    rw [sh.mem, sd.mem]
    refine ⟨fun h => ⟨h.1, fun z => (by cases z)⟩, fun h => ⟨h.1, fun _ z => ?_⟩⟩
    have hm := h.1
    have := (tot_pos (l := run) (s := s) fun x hx => (hr.each x hx).2.1).2 hm
    omega
  have td := td_heap dn (by omega)
  refine ⟨rfl, run_sum_s T (ns := p.ts.map (·.1)) (by omega) (by omega) sub nms fun h sh => ⟨rfl, ?_⟩⟩
  rw [same h sh]
  refine same_s T td (wF rfl ⟨rfl, rfl, steps_in_s T (by omega) ?_⟩)
  refine lc_map (fun d => match d with | .tup [_, y] => y | y => y) (small _ (by rw [List.length_map]; omega)) (fun d hd Q' hq => ?_) ?_
  · obtain ⟨x, hx, rfl⟩ := List.mem_map.mp hd
    exact ⟨_, rfl, ixt 1 rfl hq⟩
  refine sum_ok (due.map (·.2)) (by rw [List.map_map, List.map_map]; rfl) ⟨rfl, ?_⟩
  rw [sd.sum]
  refine same_s T (.int _) (wF rfl ⟨rfl, rfl, run_sum_s T (ns := p.ts.map (·.1)) (by omega) (by omega) sub nms fun h sh => ?_⟩)
  rw [same h sh]
  refine eq_ok (okD_heap dn) (okD_heap dn) (Nat.le_trans (dep_heap _) leR) (Nat.le_trans (dep_heap _) leR) ?_
  rw [eqD_refl (okD_heap dn)]
  refine wF rfl ⟨rfl, law_folded_s T (by omega) okr ?_⟩
  have ef : res run (hds run run.length) run.length = run.foldl fstep [] := by
    have := (fold_res run run.length (Nat.le_refl _)).1
    rw [List.take_length] at this
    exact this.symm
  rw [ef]
  have fl : ∀ (l acc : Ms), (l.foldl fstep acc).length ≤ acc.length + l.length := by
    intro l
    induction l with
    | nil => intro acc; exact Nat.le_refl _
    | cons x l ih =>
      intro acc
      have h1 := ih (fstep acc x)
      have h2 := fstep_len acc x
      show (l.foldl fstep (fstep acc x)).length ≤ acc.length + (l.length + 1)
      omega
  have fl0 := fl run []
  have fn : ∀ x ∈ run.foldl fstep [], isName x.1 = true := by
    rw [← ef]
    intro x hx
    unfold res at hx
    obtain ⟨ab, hab, rfl⟩ := List.mem_map.mp hx
    have h1 := hds_lt (List.of_mem_zip (a := ab.1) (b := ab.2) hab).1
    obtain ⟨y, hy⟩ : ∃ y, run[ab.1]? = some y := ⟨_, List.getElem?_eq_getElem h1⟩
    show isName (nmf run ab.1) = true
    rw [nmf_at hy]
    exact nmr y (List.mem_of_getElem? hy)
  have fo : ∀ x ∈ run.foldl fstep [], PyData.strOk x.1 = true := fun x hx => okD_str (fn x hx)
  have ft := td_heap fn (by simp at fl0; omega)
  refine ⟨rfl, folded_s T (by omega) okr ⟨rfl, same_s T ft (wF rfl ⟨rfl, rfl, folded_s T (by simp at fl0; omega) fo ⟨rfl, ?_⟩⟩)⟩⟩
  rw [fold_twice]
  refine same_s T ft (wF rfl ?_)
  refine ⟨rfl, box_s T hl (k := 2) (by decide) ⟨small 0, ?_⟩⟩
  refine for_go (Dk := fun ds => ∃ us : List Stx, ds = us.map (fun t => D.str t.1) ∧ us.length ≤ 14 ∧ ∀ t ∈ us, t ∈ p.ts) (fun Q' R' k => ?_) fun ds hds => ?_
  · refine ⟨rfl, mixed_s T (ds := (p.ts.map (·.1)).map D.str) (by rw [List.length_map]; omega) fun ys hy => ?_⟩
    rw [List.map_map] at hy
    obtain ⟨us, hu1, rfl⟩ := perm_map hy
    have ul : us.length ≤ 14 := by rw [hu1.length_eq]; exact h14
    refine ⟨rfl, take_s T (by show (1 : Int) ≤ (((p.ts.map (·.1)).map D.str).length : Int) + 1; omega) (by show (((p.ts.map (·.1)).map D.str).length : Int) + 1 ≤ 10 ^ 18; rw [List.length_map]; omega) fun r hr => ?_⟩
    have hr : r ≤ us.length := by
      have : (r : Int) < (((p.ts.map (·.1)).map D.str).length : Int) + 1 := hr
      rw [List.length_map, List.length_map] at this
      rw [hu1.length_eq]
      omega
    show Q' (Pd.cutD (us.map fun t => D.str t.1) none (some (r : Int)))
    rw [cut_lo (by rw [List.length_map]; exact hr), ← List.map_take]
    exact k _ ⟨us.take r, rfl, by rw [List.length_take]; omega, fun t ht => hu1.mem_iff.mp (List.mem_of_mem_take ht)⟩
  obtain ⟨us, rfl, ul, uin⟩ := hds
  refine loop0 (fun i e => ∃ (ps : Prs) (a b c : Sl), e = [.v (.frz (ns.map D.int)), .v dBox, .v (.tup [.tup (p.pl.map D.str), stepsD p.ts, .str p.st, .str p.en]), .v (planD T p), .v (.lst ((p.ts.map (·.1)).map D.str)), .v (heapD run), .v (heapD (run.foldl fstep [])), .l (ps.map prD), a, b, c] ∧ ps.length = i ∧ ∀ x ∈ ps, x.1 ∈ p.ts ∧ x.2.natAbs ≤ 10 ^ 12) ⟨[], _, _, _, rfl, rfl, by simp⟩ ?_ ?_
  · rintro i d e0 Q' hd ⟨ps, a, b, c, rfl, pl, pin⟩ hq
    obtain ⟨t, ht, rfl⟩ := map_at hd
    have htm := uin t (List.mem_of_getElem? ht)
    have hi := get_lt ht
    refine ⟨_, rfl, ⟨rfl, times_s T fun n1 n1a n1b => ⟨rfl, times_s T fun n2 n2a n2b => ⟨rfl, take_s T (by decide) (by decide) fun r hr => ⟨small 6, ?_⟩⟩⟩⟩⟩
    refine ⟨rfl, six_s T (x := (n1 : Int)) (y := -(n2 : Int)) (z := (r : Int) - 4) (by omega) (by omega) (by omega) fun n hn => ⟨small 2, ?_⟩⟩
    refine ⟨small _ (by rw [List.length_map]; omega), hq.nx _ ⟨ps ++ [(t, n)], .v (.str t.1), b, c, ?_, ?_, ?_⟩⟩
    · rw [List.map_append]
      rfl
    · rw [List.length_append, pl]
      rfl
    · intro x hx
      rcases List.mem_append.mp hx with h | h
      · exact pin x h
      · rw [List.mem_singleton.mp h]
        exact ⟨htm, hn⟩
  · rintro e ⟨ps, a, b, c, rfl, pl, pin⟩
    rw [List.length_map] at pl
    have pl14 : ps.length ≤ 14 := by omega
    refine ⟨rfl, rfl, sum_change_s T gp h14 h20 pl14 pin fun l1 g1 t1 m1 => ?_⟩
    refine ixt 1 rfl ⟨rfl, law_change_s T gp h14 h20 pl14 pin fun l2 g2 t2 m2 => ⟨rfl, ?_⟩⟩
    have eg : g1 = g2 := m1.same m2 fun s => by rw [t1, t2]
    subst eg
    have gn : ∀ x ∈ g1, isName x.1 = true := fun x hx => by
      have hm := (m1.mem0 x.1).mp (List.mem_map.mpr ⟨x, hx, rfl⟩)
      rw [t1] at hm
      refine gp.nm _ ?_
      refine Classical.byContradiction fun no => hm ?_
      unfold totP
      have : ps.map (fun y => dlt y.1 x.1 * y.2) = ps.map fun _ => (0 : Int) := List.map_congr_left fun y hy => by
        have gt := gp.ts.each y.1 (pin y hy).1
        unfold dlt
        rw [tot_no fun h => by
          obtain ⟨z, hz, e⟩ := List.mem_map.mp h
          exact no (e ▸ (gt.ly.inn z hz).1), tot_no fun h => by
          obtain ⟨z, hz, e⟩ := List.mem_map.mp h
          exact no (e ▸ (gt.tk.inn z hz).1)]
        simp
      rw [this]
      clear this pl14 pl pin t1 t2 m1 m2 hm
      induction ps with
      | nil => rfl
      | cons a ps ih => rw [List.map_cons, List.sum_cons, ih]; rfl
    have gl : g1.length ≤ 20 := by
      have := sub_len (m := p.pl) (asc_nodup m1.asc) fun s hs => by
        obtain ⟨x, hx, rfl⟩ := List.mem_map.mp hs
        have hm := (m1.mem0 x.1).mp hs
        rw [t1] at hm
        refine Classical.byContradiction fun no => hm ?_
        unfold totP
        have : ps.map (fun y => dlt y.1 x.1 * y.2) = ps.map fun _ => (0 : Int) := List.map_congr_left fun y hy => by
          have gt := gp.ts.each y.1 (pin y hy).1
          unfold dlt
          rw [tot_no fun h => by
            obtain ⟨z, hz, e⟩ := List.mem_map.mp h
            exact no (e ▸ (gt.ly.inn z hz).1), tot_no fun h => by
            obtain ⟨z, hz, e⟩ := List.mem_map.mp h
            exact no (e ▸ (gt.tk.inn z hz).1)]
          simp
        rw [this]
        clear this pl14 pl pin t1 t2 m1 m2 hm
        induction ps with
        | nil => rfl
        | cons a ps ih => rw [List.map_cons, List.sum_cons, ih]; rfl
      rw [List.length_map] at this
      omega
    exact same_s T (td_heap gn (by omega)) rfl
end
end K09
set_option maxRecDepth 100000
set_option maxHeartbeats 4000000
namespace K09
open PySem PySem.Spec PyProof.Rows L2 Pre Pd
section
variable {P : Program} {w : World} {K : PySem.W.Frag} {mg : Str → Option Value} {base : Heap}
theorem law_ok (T : Tx K mg) : FnOk P w K mg base (L2.CX P w) 10 T.law T.law_fd ["script"] (spLaw K) := law_of (ok_law T) (fun ns hl => law_s T hl)
end
theorem all_mk {l : PySem.W.OpenLaw} {w : World} {K : PySem.W.Frag} {h : Heap} {mg : Str → Option Value} {fa : Addr} {I_Plan : Addr} {I_NoName : Addr} {I_InvalidRun : Addr} {I_InvalidPlan : Addr} {f0 f1 f2 f3 f4 f5 f6 f7 f8 f9 f10 f11 f12 f13 f14 f15 f16 f17 f18 f19 f20 f21 f22 f23 f24 f25 f26 f27 f28 f29 f30 f31 f32 f33 f34 f35 f36 f37 f38 f39 f40 f41 C_CaseError C_InvalidPlan C_InvalidRun C_NoName C_Plan : Addr} (X : K.In h) (G : h.Ns mainGlobals mg) (hfa : mg "law" = some (.ref fa))
    {od0 od1 od2 od3 od4 od5 od6 od7 od8 od9 od10 od11 od12 od13 od14 od15 od16 od17 od18 od19 od20 od21 od22 od23 od24 od25 od26 od27 od28 od29 od30 od31 od32 od33 od34 od35 od36 od37 od38 od39 od40 od41 an0 an1 an2 an3 an4 an5 an6 an7 an8 an9 an10 an11 an12 an13 an14 an15 an16 an17 an18 an19 an20 an21 an22 an23 an24 an25 an26 an27 an28 an29 an30 an31 an32 an33 an34 an35 an36 an37 an38 an39 an40 an41 : Option Addr} {sl0 sl1 sl2 sl3 sl4 sl5 sl6 sl7 sl8 sl9 sl10 sl11 sl12 sl13 sl14 sl15 sl16 sl17 sl18 sl19 sl20 sl21 sl22 sl23 sl24 sl25 sl26 sl27 sl28 sl29 sl30 sl31 sl32 sl33 sl34 sl35 sl36 sl37 sl38 sl39 sl40 sl41 : Array (Option Value)} {oc0 oc1 oc2 oc3 oc4 oc5 oc6 oc7 oc8 oc9 oc10 oc11 oc12 oc13 oc14 oc15 oc16 oc17 oc18 oc19 oc20 oc21 oc22 oc23 oc24 oc25 oc26 oc27 oc28 oc29 oc30 oc31 oc32 oc33 oc34 oc35 oc36 oc37 oc38 oc39 oc40 oc41 kV0 kV1 kV2 kV3 kV4 kV5 kV6 kV7 kV8 kV9 kV10 kV11 kV12 kV13 kV14 kV15 kV16 kV17 kV18 kV19 kV20 kV21 kV22 kV23 kV24 kV25 kV26 kV27 kV28 kV29 kV30 kV31 kV32 kV33 kV34 kV35 kV36 kV37 kV38 kV39 kV40 kV41 dc0 dc1 dc2 dc3 dc4 dc5 dc6 dc7 dc8 dc9 dc10 dc11 dc12 dc13 dc14 dc15 dc16 dc17 dc18 dc19 dc20 dc21 dc22 dc23 dc24 dc25 dc26 dc27 dc28 dc29 dc30 dc31 dc32 dc33 dc34 dc35 dc36 dc37 dc38 dc39 dc40 dc41 pm0 pm1 pm2 pm3 pm4 pm5 pm6 pm7 pm8 pm9 pm10 pm11 pm12 pm13 pm14 pm15 pm16 pm17 pm18 pm19 pm20 pm21 pm22 pm23 pm24 pm25 pm26 pm27 pm28 pm29 pm30 pm31 pm32 pm33 pm34 pm35 pm36 pm37 pm38 pm39 pm40 pm41 cd0 cd1 cd2 cd3 cd4 cd5 cd6 cd7 cd8 cd9 cd10 cd11 cd12 cd13 cd14 cd15 cd16 cd17 cd18 cd19 cd20 cd21 cd22 cd23 cd24 cd25 cd26 cd27 cd28 cd29 cd30 cd31 cd32 cd33 cd34 cd35 cd36 cd37 cd38 cd39 cd40 cd41 ct0 ct1 ct2 ct3 ct4 ct5 ct6 ct7 ct8 ct9 ct10 ct11 ct12 ct13 ct14 ct15 ct16 ct17 ct18 ct19 ct20 ct21 ct22 ct23 ct24 ct25 ct26 ct27 ct28 ct29 ct30 ct31 ct32 ct33 ct34 ct35 ct36 ct37 ct38 ct39 ct40 ct41 : Value}
    (a0 : PySem.W.nsIn K mainGlobals "is_integer" = some (some (.ref f0))) (l0 : K.lookup f0 = some ⟨oc0, od0, .func (PySem.W.fnOf "is_integer" "is_integer" (defArgs s_is_integer) (defBody s_is_integer) (defScope s_is_integer) .none kV0 dc0 pm0 an0 cd0 ct0), sl0⟩) (c0 : PySem.W.codeIn K cd0 "is_integer" = true) (k0 : PySem.W.keepIn K (.ref f0) = true)
    (a1 : PySem.W.nsIn K mainGlobals "is_count" = some (some (.ref f1))) (l1 : K.lookup f1 = some ⟨oc1, od1, .func (PySem.W.fnOf "is_count" "is_count" (defArgs s_is_count) (defBody s_is_count) (defScope s_is_count) .none kV1 dc1 pm1 an1 cd1 ct1), sl1⟩) (c1 : PySem.W.codeIn K cd1 "is_count" = true) (k1 : PySem.W.keepIn K (.ref f1) = true)
    (a2 : PySem.W.nsIn K mainGlobals "is_name" = some (some (.ref f2))) (l2 : K.lookup f2 = some ⟨oc2, od2, .func (PySem.W.fnOf "is_name" "is_name" (defArgs s_is_name) (defBody s_is_name) (defScope s_is_name) .none kV2 dc2 pm2 an2 cd2 ct2), sl2⟩) (c2 : PySem.W.codeIn K cd2 "is_name" = true) (k2 : PySem.W.keepIn K (.ref f2) = true)
    (a3 : PySem.W.nsIn K mainGlobals "is_pair" = some (some (.ref f3))) (l3 : K.lookup f3 = some ⟨oc3, od3, .func (PySem.W.fnOf "is_pair" "is_pair" (defArgs s_is_pair) (defBody s_is_pair) (defScope s_is_pair) .none kV3 dc3 pm3 an3 cd3 ct3), sl3⟩) (c3 : PySem.W.codeIn K cd3 "is_pair" = true) (k3 : PySem.W.keepIn K (.ref f3) = true)
    (a4 : PySem.W.nsIn K mainGlobals "first_wrong" = some (some (.ref f4))) (l4 : K.lookup f4 = some ⟨oc4, od4, .func (PySem.W.fnOf "first_wrong" "first_wrong" (defArgs s_first_wrong) (defBody s_first_wrong) (defScope s_first_wrong) .none kV4 dc4 pm4 an4 cd4 ct4), sl4⟩) (c4 : PySem.W.codeIn K cd4 "first_wrong" = true) (k4 : PySem.W.keepIn K (.ref f4) = true)
    (a5 : PySem.W.nsIn K mainGlobals "is_heap" = some (some (.ref f5))) (l5 : K.lookup f5 = some ⟨oc5, od5, .func (PySem.W.fnOf "is_heap" "is_heap" (defArgs s_is_heap) (defBody s_is_heap) (defScope s_is_heap) .none kV5 dc5 pm5 an5 cd5 ct5), sl5⟩) (c5 : PySem.W.codeIn K cd5 "is_heap" = true) (k5 : PySem.W.keepIn K (.ref f5) = true)
    (a6 : PySem.W.nsIn K mainGlobals "added_up" = some (some (.ref f6))) (l6 : K.lookup f6 = some ⟨oc6, od6, .func (PySem.W.fnOf "added_up" "added_up" (defArgs s_added_up) (defBody s_added_up) (defScope s_added_up) .none kV6 dc6 pm6 an6 cd6 ct6), sl6⟩) (c6 : PySem.W.codeIn K cd6 "added_up" = true) (k6 : PySem.W.keepIn K (.ref f6) = true)
    (a7 : PySem.W.nsIn K mainGlobals "amount" = some (some (.ref f7))) (l7 : K.lookup f7 = some ⟨oc7, od7, .func (PySem.W.fnOf "amount" "amount" (defArgs s_amount) (defBody s_amount) (defScope s_amount) .none kV7 dc7 pm7 an7 cd7 ct7), sl7⟩) (c7 : PySem.W.codeIn K cd7 "amount" = true) (k7 : PySem.W.keepIn K (.ref f7) = true)
    (a8 : PySem.W.nsIn K mainGlobals "gap" = some (some (.ref f8))) (l8 : K.lookup f8 = some ⟨oc8, od8, .func (PySem.W.fnOf "gap" "gap" (defArgs s_gap) (defBody s_gap) (defScope s_gap) .none kV8 dc8 pm8 an8 cd8 ct8), sl8⟩) (c8 : PySem.W.codeIn K cd8 "gap" = true) (k8 : PySem.W.keepIn K (.ref f8) = true)
    (a9 : PySem.W.nsIn K mainGlobals "changes_joined" = some (some (.ref f9))) (l9 : K.lookup f9 = some ⟨oc9, od9, .func (PySem.W.fnOf "changes_joined" "changes_joined" (defArgs s_changes_joined) (defBody s_changes_joined) (defScope s_changes_joined) .none kV9 dc9 pm9 an9 cd9 ct9), sl9⟩) (c9 : PySem.W.codeIn K cd9 "changes_joined" = true) (k9 : PySem.W.keepIn K (.ref f9) = true)
    (a10 : PySem.W.nsIn K mainGlobals "change_times" = some (some (.ref f10))) (l10 : K.lookup f10 = some ⟨oc10, od10, .func (PySem.W.fnOf "change_times" "change_times" (defArgs s_change_times) (defBody s_change_times) (defScope s_change_times) .none kV10 dc10 pm10 an10 cd10 ct10), sl10⟩) (c10 : PySem.W.codeIn K cd10 "change_times" = true) (k10 : PySem.W.keepIn K (.ref f10) = true)
    (a11 : PySem.W.nsIn K mainGlobals "need_places" = some (some (.ref f11))) (l11 : K.lookup f11 = some ⟨oc11, od11, .func (PySem.W.fnOf "need_places" "need_places" (defArgs s_need_places) (defBody s_need_places) (defScope s_need_places) .none kV11 dc11 pm11 an11 cd11 ct11), sl11⟩) (c11 : PySem.W.codeIn K cd11 "need_places" = true) (k11 : PySem.W.keepIn K (.ref f11) = true)
    (a12 : PySem.W.nsIn K mainGlobals "need_steps" = some (some (.ref f12))) (l12 : K.lookup f12 = some ⟨oc12, od12, .func (PySem.W.fnOf "need_steps" "need_steps" (defArgs s_need_steps) (defBody s_need_steps) (defScope s_need_steps) .none kV12 dc12 pm12 an12 cd12 ct12), sl12⟩) (c12 : PySem.W.codeIn K cd12 "need_steps" = true) (k12 : PySem.W.keepIn K (.ref f12) = true)
    (a13 : PySem.W.nsIn K mainGlobals "is_step" = some (some (.ref f13))) (l13 : K.lookup f13 = some ⟨oc13, od13, .func (PySem.W.fnOf "is_step" "is_step" (defArgs s_is_step) (defBody s_is_step) (defScope s_is_step) .none kV13 dc13 pm13 an13 cd13 ct13), sl13⟩) (c13 : PySem.W.codeIn K cd13 "is_step" = true) (k13 : PySem.W.keepIn K (.ref f13) = true)
    (a14 : PySem.W.nsIn K mainGlobals "is_side" = some (some (.ref f14))) (l14 : K.lookup f14 = some ⟨oc14, od14, .func (PySem.W.fnOf "is_side" "is_side" (defArgs s_is_side) (defBody s_is_side) (defScope s_is_side) .none kV14 dc14 pm14 an14 cd14 ct14), sl14⟩) (c14 : PySem.W.codeIn K cd14 "is_side" = true) (k14 : PySem.W.keepIn K (.ref f14) = true)
    (a15 : PySem.W.nsIn K mainGlobals "step_of" = some (some (.ref f15))) (l15 : K.lookup f15 = some ⟨oc15, od15, .func (PySem.W.fnOf "step_of" "step_of" (defArgs s_step_of) (defBody s_step_of) (defScope s_step_of) .none kV15 dc15 pm15 an15 cd15 ct15), sl15⟩) (c15 : PySem.W.codeIn K cd15 "step_of" = true) (k15 : PySem.W.keepIn K (.ref f15) = true)
    (a16 : PySem.W.nsIn K mainGlobals "step_change" = some (some (.ref f16))) (l16 : K.lookup f16 = some ⟨oc16, od16, .func (PySem.W.fnOf "step_change" "step_change" (defArgs s_step_change) (defBody s_step_change) (defScope s_step_change) .none kV16 dc16 pm16 an16 cd16 ct16), sl16⟩) (c16 : PySem.W.codeIn K cd16 "step_change" = true) (k16 : PySem.W.keepIn K (.ref f16) = true)
    (a17 : PySem.W.nsIn K mainGlobals "names_of" = some (some (.ref f17))) (l17 : K.lookup f17 = some ⟨oc17, od17, .func (PySem.W.fnOf "names_of" "names_of" (defArgs s_names_of) (defBody s_names_of) (defScope s_names_of) .none kV17 dc17 pm17 an17 cd17 ct17), sl17⟩) (c17 : PySem.W.codeIn K cd17 "names_of" = true) (k17 : PySem.W.keepIn K (.ref f17) = true)
    (a18 : PySem.W.nsIn K mainGlobals "need_run" = some (some (.ref f18))) (l18 : K.lookup f18 = some ⟨oc18, od18, .func (PySem.W.fnOf "need_run" "need_run" (defArgs s_need_run) (defBody s_need_run) (defScope s_need_run) .none kV18 dc18 pm18 an18 cd18 ct18), sl18⟩) (c18 : PySem.W.codeIn K cd18 "need_run" = true) (k18 : PySem.W.keepIn K (.ref f18) = true)
    (a19 : PySem.W.nsIn K mainGlobals "first_wrong_row" = some (some (.ref f19))) (l19 : K.lookup f19 = some ⟨oc19, od19, .func (PySem.W.fnOf "first_wrong_row" "first_wrong_row" (defArgs s_first_wrong_row) (defBody s_first_wrong_row) (defScope s_first_wrong_row) .none kV19 dc19 pm19 an19 cd19 ct19), sl19⟩) (c19 : PySem.W.codeIn K cd19 "first_wrong_row" = true) (k19 : PySem.W.keepIn K (.ref f19) = true)
    (a20 : PySem.W.nsIn K mainGlobals "run_sum" = some (some (.ref f20))) (l20 : K.lookup f20 = some ⟨oc20, od20, .func (PySem.W.fnOf "run_sum" "run_sum" (defArgs s_run_sum) (defBody s_run_sum) (defScope s_run_sum) .none kV20 dc20 pm20 an20 cd20 ct20), sl20⟩) (c20 : PySem.W.codeIn K cd20 "run_sum" = true) (k20 : PySem.W.keepIn K (.ref f20) = true)
    (a21 : PySem.W.nsIn K mainGlobals "sum_change" = some (some (.ref f21))) (l21 : K.lookup f21 = some ⟨oc21, od21, .func (PySem.W.fnOf "sum_change" "sum_change" (defArgs s_sum_change) (defBody s_sum_change) (defScope s_sum_change) .none kV21 dc21 pm21 an21 cd21 ct21), sl21⟩) (c21 : PySem.W.codeIn K cd21 "sum_change" = true) (k21 : PySem.W.keepIn K (.ref f21) = true)
    (a22 : PySem.W.nsIn K mainGlobals "steps_in" = some (some (.ref f22))) (l22 : K.lookup f22 = some ⟨oc22, od22, .func (PySem.W.fnOf "steps_in" "steps_in" (defArgs s_steps_in) (defBody s_steps_in) (defScope s_steps_in) .none kV22 dc22 pm22 an22 cd22 ct22), sl22⟩) (c22 : PySem.W.codeIn K cd22 "steps_in" = true) (k22 : PySem.W.keepIn K (.ref f22) = true)
    (a23 : PySem.W.nsIn K mainGlobals "folded" = some (some (.ref f23))) (l23 : K.lookup f23 = some ⟨oc23, od23, .func (PySem.W.fnOf "folded" "folded" (defArgs s_folded) (defBody s_folded) (defScope s_folded) .none kV23 dc23 pm23 an23 cd23 ct23), sl23⟩) (c23 : PySem.W.codeIn K cd23 "folded" = true) (k23 : PySem.W.keepIn K (.ref f23) = true)
    (a24 : PySem.W.nsIn K mainGlobals "_law_box" = some (some (.ref f24))) (l24 : K.lookup f24 = some ⟨oc24, od24, .func (PySem.W.fnOf "_law_box" "_law_box" (defArgs s_law_box) (defBody s_law_box) (defScope s_law_box) .none kV24 dc24 pm24 an24 cd24 ct24), sl24⟩) (c24 : PySem.W.codeIn K cd24 "_law_box" = true) (k24 : PySem.W.keepIn K (.ref f24) = true)
    (a25 : PySem.W.nsIn K mainGlobals "_law_take" = some (some (.ref f25))) (l25 : K.lookup f25 = some ⟨oc25, od25, .func (PySem.W.fnOf "_law_take" "_law_take" (defArgs s_law_take) (defBody s_law_take) (defScope s_law_take) .none kV25 dc25 pm25 an25 cd25 ct25), sl25⟩) (c25 : PySem.W.codeIn K cd25 "_law_take" = true) (k25 : PySem.W.keepIn K (.ref f25) = true)
    (a26 : PySem.W.nsIn K mainGlobals "_law_pick" = some (some (.ref f26))) (l26 : K.lookup f26 = some ⟨oc26, od26, .func (PySem.W.fnOf "_law_pick" "_law_pick" (defArgs s_law_pick) (defBody s_law_pick) (defScope s_law_pick) .none kV26 dc26 pm26 an26 cd26 ct26), sl26⟩) (c26 : PySem.W.codeIn K cd26 "_law_pick" = true) (k26 : PySem.W.keepIn K (.ref f26) = true)
    (a27 : PySem.W.nsIn K mainGlobals "_law_mixed" = some (some (.ref f27))) (l27 : K.lookup f27 = some ⟨oc27, od27, .func (PySem.W.fnOf "_law_mixed" "_law_mixed" (defArgs s_law_mixed) (defBody s_law_mixed) (defScope s_law_mixed) .none kV27 dc27 pm27 an27 cd27 ct27), sl27⟩) (c27 : PySem.W.codeIn K cd27 "_law_mixed" = true) (k27 : PySem.W.keepIn K (.ref f27) = true)
    (a28 : PySem.W.nsIn K mainGlobals "_law_same" = some (some (.ref f28))) (l28 : K.lookup f28 = some ⟨oc28, od28, .func (PySem.W.fnOf "_law_same" "_law_same" (defArgs s_law_same) (defBody s_law_same) (defScope s_law_same) .none kV28 dc28 pm28 an28 cd28 ct28), sl28⟩) (c28 : PySem.W.codeIn K cd28 "_law_same" = true) (k28 : PySem.W.keepIn K (.ref f28) = true)
    (a29 : PySem.W.nsIn K mainGlobals "_law_names" = some (some (.ref f29))) (l29 : K.lookup f29 = some ⟨oc29, od29, .func (PySem.W.fnOf "_law_names" "_law_names" (defArgs s_law_names) (defBody s_law_names) (defScope s_law_names) .none kV29 dc29 pm29 an29 cd29 ct29), sl29⟩) (c29 : PySem.W.codeIn K cd29 "_law_names" = true) (k29 : PySem.W.keepIn K (.ref f29) = true)
    (a30 : PySem.W.nsIn K mainGlobals "_law_heap" = some (some (.ref f30))) (l30 : K.lookup f30 = some ⟨oc30, od30, .func (PySem.W.fnOf "_law_heap" "_law_heap" (defArgs s_law_heap) (defBody s_law_heap) (defScope s_law_heap) .none kV30 dc30 pm30 an30 cd30 ct30), sl30⟩) (c30 : PySem.W.codeIn K cd30 "_law_heap" = true) (k30 : PySem.W.keepIn K (.ref f30) = true)
    (a31 : PySem.W.nsIn K mainGlobals "_law_plan" = some (some (.ref f31))) (l31 : K.lookup f31 = some ⟨oc31, od31, .func (PySem.W.fnOf "_law_plan" "_law_plan" (defArgs s_law_plan) (defBody s_law_plan) (defScope s_law_plan) .none kV31 dc31 pm31 an31 cd31 ct31), sl31⟩) (c31 : PySem.W.codeIn K cd31 "_law_plan" = true) (k31 : PySem.W.keepIn K (.ref f31) = true)
    (a32 : PySem.W.nsIn K mainGlobals "_law_strange" = some (some (.ref f32))) (l32 : K.lookup f32 = some ⟨oc32, od32, .func (PySem.W.fnOf "_law_strange" "_law_strange" (defArgs s_law_strange) (defBody s_law_strange) (defScope s_law_strange) .none kV32 dc32 pm32 an32 cd32 ct32), sl32⟩) (c32 : PySem.W.codeIn K cd32 "_law_strange" = true) (k32 : PySem.W.keepIn K (.ref f32) = true)
    (a33 : PySem.W.nsIn K mainGlobals "_law_times" = some (some (.ref f33))) (l33 : K.lookup f33 = some ⟨oc33, od33, .func (PySem.W.fnOf "_law_times" "_law_times" (defArgs s_law_times) (defBody s_law_times) (defScope s_law_times) .none kV33 dc33 pm33 an33 cd33 ct33), sl33⟩) (c33 : PySem.W.codeIn K cd33 "_law_times" = true) (k33 : PySem.W.keepIn K (.ref f33) = true)
    (a34 : PySem.W.nsIn K mainGlobals "_law_run" = some (some (.ref f34))) (l34 : K.lookup f34 = some ⟨oc34, od34, .func (PySem.W.fnOf "_law_run" "_law_run" (defArgs s_law_run) (defBody s_law_run) (defScope s_law_run) .none kV34 dc34 pm34 an34 cd34 ct34), sl34⟩) (c34 : PySem.W.codeIn K cd34 "_law_run" = true) (k34 : PySem.W.keepIn K (.ref f34) = true)
    (a35 : PySem.W.nsIn K mainGlobals "_law_none" = some (some (.ref f35))) (l35 : K.lookup f35 = some ⟨oc35, od35, .func (PySem.W.fnOf "_law_none" "_law_none" (defArgs s_law_none) (defBody s_law_none) (defScope s_law_none) .none kV35 dc35 pm35 an35 cd35 ct35), sl35⟩) (c35 : PySem.W.codeIn K cd35 "_law_none" = true) (k35 : PySem.W.keepIn K (.ref f35) = true)
    (a36 : PySem.W.nsIn K mainGlobals "_law_said" = some (some (.ref f36))) (l36 : K.lookup f36 = some ⟨oc36, od36, .func (PySem.W.fnOf "_law_said" "_law_said" (defArgs s_law_said) (defBody s_law_said) (defScope s_law_said) .none kV36 dc36 pm36 an36 cd36 ct36), sl36⟩) (c36 : PySem.W.codeIn K cd36 "_law_said" = true) (k36 : PySem.W.keepIn K (.ref f36) = true)
    (a37 : PySem.W.nsIn K mainGlobals "_law_needs_hold" = some (some (.ref f37))) (l37 : K.lookup f37 = some ⟨oc37, od37, .func (PySem.W.fnOf "_law_needs_hold" "_law_needs_hold" (defArgs s_law_needs_hold) (defBody s_law_needs_hold) (defScope s_law_needs_hold) .none kV37 dc37 pm37 an37 cd37 ct37), sl37⟩) (c37 : PySem.W.codeIn K cd37 "_law_needs_hold" = true) (k37 : PySem.W.keepIn K (.ref f37) = true)
    (a38 : PySem.W.nsIn K mainGlobals "_law_sum" = some (some (.ref f38))) (l38 : K.lookup f38 = some ⟨oc38, od38, .func (PySem.W.fnOf "_law_sum" "_law_sum" (defArgs s_law_sum) (defBody s_law_sum) (defScope s_law_sum) .none kV38 dc38 pm38 an38 cd38 ct38), sl38⟩) (c38 : PySem.W.codeIn K cd38 "_law_sum" = true) (k38 : PySem.W.keepIn K (.ref f38) = true)
    (a39 : PySem.W.nsIn K mainGlobals "_law_folded" = some (some (.ref f39))) (l39 : K.lookup f39 = some ⟨oc39, od39, .func (PySem.W.fnOf "_law_folded" "_law_folded" (defArgs s_law_folded) (defBody s_law_folded) (defScope s_law_folded) .none kV39 dc39 pm39 an39 cd39 ct39), sl39⟩) (c39 : PySem.W.codeIn K cd39 "_law_folded" = true) (k39 : PySem.W.keepIn K (.ref f39) = true)
    (a40 : PySem.W.nsIn K mainGlobals "_law_change" = some (some (.ref f40))) (l40 : K.lookup f40 = some ⟨oc40, od40, .func (PySem.W.fnOf "_law_change" "_law_change" (defArgs s_law_change) (defBody s_law_change) (defScope s_law_change) .none kV40 dc40 pm40 an40 cd40 ct40), sl40⟩) (c40 : PySem.W.codeIn K cd40 "_law_change" = true) (k40 : PySem.W.keepIn K (.ref f40) = true)
    (a41 : PySem.W.nsIn K mainGlobals "law" = some (some (.ref f41))) (l41 : K.lookup f41 = some ⟨oc41, od41, .func (PySem.W.fnOf "law" "law" (defArgs s_law) (defBody s_law) (defScope s_law) .none kV41 dc41 pm41 an41 cd41 ct41), sl41⟩) (c41 : PySem.W.codeIn K cd41 "law" = true) (k41 : PySem.W.keepIn K (.ref f41) = true)
    (z_abs : PySem.W.nsIn K mainGlobals "abs" = some none)
    (z_all : PySem.W.nsIn K mainGlobals "all" = some none)
    (z_bool : PySem.W.nsIn K mainGlobals "bool" = some none)
    (z_dict : PySem.W.nsIn K mainGlobals "dict" = some none)
    (z_enumerate : PySem.W.nsIn K mainGlobals "enumerate" = some none)
    (z_int : PySem.W.nsIn K mainGlobals "int" = some none)
    (z_isinstance : PySem.W.nsIn K mainGlobals "isinstance" = some none)
    (z_len : PySem.W.nsIn K mainGlobals "len" = some none)
    (z_list : PySem.W.nsIn K mainGlobals "list" = some none)
    (z_max : PySem.W.nsIn K mainGlobals "max" = some none)
    (z_range : PySem.W.nsIn K mainGlobals "range" = some none)
    (z_sorted : PySem.W.nsIn K mainGlobals "sorted" = some none)
    (z_str : PySem.W.nsIn K mainGlobals "str" = some none)
    (z_sum : PySem.W.nsIn K mainGlobals "sum" = some none)
    (z_tuple : PySem.W.nsIn K mainGlobals "tuple" = some none)
    (z_zip : PySem.W.nsIn K mainGlobals "zip" = some none)
    {t_LETTERS : Tok} (g_LETTERS : PySem.W.nsIn K mainGlobals "LETTERS" = some (some (.str "abcdefghijklmnopqrstuvwxyz" t_LETTERS)))
    {t_LONGEST_NAME : Tok} (g_LONGEST_NAME : PySem.W.nsIn K mainGlobals "LONGEST_NAME" = some (some (.int 8 t_LONGEST_NAME)))
    {t_MOST_PAPERS : Tok} (g_MOST_PAPERS : PySem.W.nsIn K mainGlobals "MOST_PAPERS" = some (some (.int 9 t_MOST_PAPERS)))
    (a_CaseError : PySem.W.nsIn K mainGlobals "CaseError" = some (some (.ref C_CaseError)))
    (e_CaseError : Xc.erB K C_CaseError "Exception.__new__" Xc.tExc [] = true)
    (a_InvalidPlan : PySem.W.nsIn K mainGlobals "InvalidPlan" = some (some (.ref C_InvalidPlan)))
    (e_InvalidPlan : Xc.erB K C_InvalidPlan "Exception.__new__" Xc.tExc ["word", "at"] = true)
    (i_InvalidPlan : PySem.W.findIn K (.ref C_InvalidPlan) "__init__" = some (some (.ref I_InvalidPlan)))
    (t_InvalidPlan : PySem.W.typeIn K (.ref I_InvalidPlan) = some (.type "function"))
    {oc_InvalidPlan kV_InvalidPlan dc_InvalidPlan pm_InvalidPlan cd_InvalidPlan ct_InvalidPlan : Value} {od_InvalidPlan an_InvalidPlan : Option Addr} {sl_InvalidPlan : Array (Option Value)}
    (l_InvalidPlan : K.lookup I_InvalidPlan = some ⟨oc_InvalidPlan, od_InvalidPlan, .func (PySem.W.fnOf "__init__" "InvalidPlan.__init__" (defArgs s_InvalidPlan_i) (defBody s_InvalidPlan_i) (defScope s_InvalidPlan_i) .none kV_InvalidPlan dc_InvalidPlan pm_InvalidPlan an_InvalidPlan cd_InvalidPlan ct_InvalidPlan), sl_InvalidPlan⟩) (c_InvalidPlan : PySem.W.codeIn K cd_InvalidPlan "InvalidPlan.__init__" = true) (k_InvalidPlan : PySem.W.keepIn K (.ref I_InvalidPlan) = true)
    (a_InvalidRun : PySem.W.nsIn K mainGlobals "InvalidRun" = some (some (.ref C_InvalidRun)))
    (e_InvalidRun : Xc.erB K C_InvalidRun "Exception.__new__" Xc.tExc ["at"] = true)
    (i_InvalidRun : PySem.W.findIn K (.ref C_InvalidRun) "__init__" = some (some (.ref I_InvalidRun)))
    (t_InvalidRun : PySem.W.typeIn K (.ref I_InvalidRun) = some (.type "function"))
    {oc_InvalidRun kV_InvalidRun dc_InvalidRun pm_InvalidRun cd_InvalidRun ct_InvalidRun : Value} {od_InvalidRun an_InvalidRun : Option Addr} {sl_InvalidRun : Array (Option Value)}
    (l_InvalidRun : K.lookup I_InvalidRun = some ⟨oc_InvalidRun, od_InvalidRun, .func (PySem.W.fnOf "__init__" "InvalidRun.__init__" (defArgs s_InvalidRun_i) (defBody s_InvalidRun_i) (defScope s_InvalidRun_i) .none kV_InvalidRun dc_InvalidRun pm_InvalidRun an_InvalidRun cd_InvalidRun ct_InvalidRun), sl_InvalidRun⟩) (c_InvalidRun : PySem.W.codeIn K cd_InvalidRun "InvalidRun.__init__" = true) (k_InvalidRun : PySem.W.keepIn K (.ref I_InvalidRun) = true)
    (a_NoName : PySem.W.nsIn K mainGlobals "NoName" = some (some (.ref C_NoName)))
    (e_NoName : Xc.erB K C_NoName "LookupError.__new__" Xc.tKey ["name"] = true)
    (i_NoName : PySem.W.findIn K (.ref C_NoName) "__init__" = some (some (.ref I_NoName)))
    (t_NoName : PySem.W.typeIn K (.ref I_NoName) = some (.type "function"))
    {oc_NoName kV_NoName dc_NoName pm_NoName cd_NoName ct_NoName : Value} {od_NoName an_NoName : Option Addr} {sl_NoName : Array (Option Value)}
    (l_NoName : K.lookup I_NoName = some ⟨oc_NoName, od_NoName, .func (PySem.W.fnOf "__init__" "NoName.__init__" (defArgs s_NoName_i) (defBody s_NoName_i) (defScope s_NoName_i) .none kV_NoName dc_NoName pm_NoName an_NoName cd_NoName ct_NoName), sl_NoName⟩) (c_NoName : PySem.W.codeIn K cd_NoName "NoName.__init__" = true) (k_NoName : PySem.W.keepIn K (.ref I_NoName) = true)
    (a_Plan : PySem.W.nsIn K mainGlobals "Plan" = some (some (.ref C_Plan)))
    (i_Plan : PySem.W.findIn K (.ref C_Plan) "__init__" = some (some (.ref I_Plan)))
    {oc_Plan kV_Plan dc_Plan pm_Plan cd_Plan ct_Plan : Value} {od_Plan an_Plan : Option Addr} {sl_Plan : Array (Option Value)}
    (l_Plan : K.lookup I_Plan = some ⟨oc_Plan, od_Plan, .func (PySem.W.fnOf "__init__" "Plan.__init__" (defArgs s_Plan_i) (defBody s_Plan_i) (defScope s_Plan_i) .none kV_Plan dc_Plan pm_Plan an_Plan cd_Plan ct_Plan), sl_Plan⟩) (c_Plan : PySem.W.codeIn K cd_Plan "Plan.__init__" = true) (k_Plan : PySem.W.keepIn K (.ref I_Plan) = true)
    (m_Plan : mkB K C_Plan I_Plan = true) (o_Plan : objB K C_Plan = true)
    (n_Plan_end : PySem.W.findIn K (.ref C_Plan) "end" = some none)
    (n_Plan_places : PySem.W.findIn K (.ref C_Plan) "places" = some none)
    (n_Plan_start : PySem.W.findIn K (.ref C_Plan) "start" = some none)
    (n_Plan_steps : PySem.W.findIn K (.ref C_Plan) "steps" = some none)
    (tab : Xc.tabB K [C_InvalidPlan, C_InvalidRun, C_NoName] C_CaseError C_NoName = true) :
    ∃ fd : FuncData, (∀ (s : Shared) (v : Value), BindsTo s fd ⟨[v], []⟩ [("script", v)]) ∧ ∀ base : Heap, K.In base → base.Ns mainGlobals mg → FnOk l.prog w K mg base (L2.CX l.prog w) 10 fa fd ["script"] (spLaw K) := by
  have e := hfa.symm.trans (PySem.W.mg_of X G a41)
  cases e
  have F0 := fun_mk (st := s_is_integer) l0 c0 k0
  have b0 := F0.binds (ps := ["value"]) fun _ _ _ _ _ _ us hl => match us, hl with | [_], _ => rfl
  have F1 := fun_mk (st := s_is_count) l1 c1 k1
  have b1 := F1.binds (ps := ["value"]) fun _ _ _ _ _ _ us hl => match us, hl with | [_], _ => rfl
  have F2 := fun_mk (st := s_is_name) l2 c2 k2
  have b2 := F2.binds (ps := ["value"]) fun _ _ _ _ _ _ us hl => match us, hl with | [_], _ => rfl
  have F3 := fun_mk (st := s_is_pair) l3 c3 k3
  have b3 := F3.binds (ps := ["value"]) fun _ _ _ _ _ _ us hl => match us, hl with | [_], _ => rfl
  have F4 := fun_mk (st := s_first_wrong) l4 c4 k4
  have b4 := F4.binds (ps := ["value", "is_right"]) fun _ _ _ _ _ _ us hl => match us, hl with | [_, _], _ => rfl
  have F5 := fun_mk (st := s_is_heap) l5 c5 k5
  have b5 := F5.binds (ps := ["value"]) fun _ _ _ _ _ _ us hl => match us, hl with | [_], _ => rfl
  have F6 := fun_mk (st := s_added_up) l6 c6 k6
  have b6 := F6.binds (ps := ["pairs"]) fun _ _ _ _ _ _ us hl => match us, hl with | [_], _ => rfl
  have F7 := fun_mk (st := s_amount) l7 c7 k7
  have b7 := F7.binds (ps := ["heap", "place"]) fun _ _ _ _ _ _ us hl => match us, hl with | [_, _], _ => rfl
  have F8 := fun_mk (st := s_gap) l8 c8 k8
  have b8 := F8.binds (ps := ["heap", "other"]) fun _ _ _ _ _ _ us hl => match us, hl with | [_, _], _ => rfl
  have F9 := fun_mk (st := s_changes_joined) l9 c9 k9
  have b9 := F9.binds (ps := ["changes"]) fun _ _ _ _ _ _ us hl => match us, hl with | [_], _ => rfl
  have F10 := fun_mk (st := s_change_times) l10 c10 k10
  have b10 := F10.binds (ps := ["change", "number"]) fun _ _ _ _ _ _ us hl => match us, hl with | [_, _], _ => rfl
  have F11 := fun_mk (st := s_need_places) l11 c11 k11
  have b11 := F11.binds (ps := ["places"]) fun _ _ _ _ _ _ us hl => match us, hl with | [_], _ => rfl
  have F12 := fun_mk (st := s_need_steps) l12 c12 k12
  have b12 := F12.binds (ps := ["places", "steps", "start", "end"]) fun _ _ _ _ _ _ us hl => match us, hl with | [_, _, _, _], _ => rfl
  have F13 := fun_mk (st := s_is_step) l13 c13 k13
  have b13 := F13.binds (ps := ["places", "step", "start", "end"]) fun _ _ _ _ _ _ us hl => match us, hl with | [_, _, _, _], _ => rfl
  have F14 := fun_mk (st := s_is_side) l14 c14 k14
  have b14 := F14.binds (ps := ["places", "heap"]) fun _ _ _ _ _ _ us hl => match us, hl with | [_, _], _ => rfl
  have F15 := fun_mk (st := s_step_of) l15 c15 k15
  have b15 := F15.binds (ps := ["plan", "name"]) fun _ _ _ _ _ _ us hl => match us, hl with | [_, _], _ => rfl
  have F16 := fun_mk (st := s_step_change) l16 c16 k16
  have b16 := F16.binds (ps := ["plan", "name"]) fun _ _ _ _ _ _ us hl => match us, hl with | [_, _], _ => rfl
  have F17 := fun_mk (st := s_names_of) l17 c17 k17
  have b17 := F17.binds (ps := ["plan"]) fun _ _ _ _ _ _ us hl => match us, hl with | [_], _ => rfl
  have F18 := fun_mk (st := s_need_run) l18 c18 k18
  have b18 := F18.binds (ps := ["plan", "value"]) fun _ _ _ _ _ _ us hl => match us, hl with | [_, _], _ => rfl
  have F19 := fun_mk (st := s_first_wrong_row) l19 c19 k19
  have b19 := F19.binds (ps := ["plan", "value"]) fun _ _ _ _ _ _ us hl => match us, hl with | [_, _], _ => rfl
  have F20 := fun_mk (st := s_run_sum) l20 c20 k20
  have b20 := F20.binds (ps := ["run"]) fun _ _ _ _ _ _ us hl => match us, hl with | [_], _ => rfl
  have F21 := fun_mk (st := s_sum_change) l21 c21 k21
  have b21 := F21.binds (ps := ["plan", "steps"]) fun _ _ _ _ _ _ us hl => match us, hl with | [_, _], _ => rfl
  have F22 := fun_mk (st := s_steps_in) l22 c22 k22
  have b22 := F22.binds (ps := ["run"]) fun _ _ _ _ _ _ us hl => match us, hl with | [_], _ => rfl
  have F23 := fun_mk (st := s_folded) l23 c23 k23
  have b23 := F23.binds (ps := ["run"]) fun _ _ _ _ _ _ us hl => match us, hl with | [_], _ => rfl
  have F24 := fun_mk (st := s_law_box) l24 c24 k24
  have b24 := F24.binds (ps := ["script", "k"]) fun _ _ _ _ _ _ us hl => match us, hl with | [_, _], _ => rfl
  have F25 := fun_mk (st := s_law_take) l25 c25 k25
  have b25 := F25.binds (ps := ["box", "many"]) fun _ _ _ _ _ _ us hl => match us, hl with | [_, _], _ => rfl
  have F26 := fun_mk (st := s_law_pick) l26 c26 k26
  have b26 := F26.binds (ps := ["box", "some"]) fun _ _ _ _ _ _ us hl => match us, hl with | [_, _], _ => rfl
  have F27 := fun_mk (st := s_law_mixed) l27 c27 k27
  have b27 := F27.binds (ps := ["box", "some"]) fun _ _ _ _ _ _ us hl => match us, hl with | [_, _], _ => rfl
  have F28 := fun_mk (st := s_law_same) l28 c28 k28
  have b28 := F28.binds (ps := ["got", "due"]) fun _ _ _ _ _ _ us hl => match us, hl with | [_, _], _ => rfl
  have F29 := fun_mk (st := s_law_names) l29 c29 k29
  have b29 := F29.binds (ps := ["box", "many"]) fun _ _ _ _ _ _ us hl => match us, hl with | [_, _], _ => rfl
  have F30 := fun_mk (st := s_law_heap) l30 c30 k30
  have b30 := F30.binds (ps := ["box", "places", "most", "great"]) fun _ _ _ _ _ _ us hl => match us, hl with | [_, _, _, _], _ => rfl
  have F31 := fun_mk (st := s_law_plan) l31 c31 k31
  have b31 := F31.binds (ps := ["box"]) fun _ _ _ _ _ _ us hl => match us, hl with | [_], _ => rfl
  have F32 := fun_mk (st := s_law_strange) l32 c32 k32
  have b32 := F32.binds (ps := ["steps"]) fun _ _ _ _ _ _ us hl => match us, hl with | [_], _ => rfl
  have F33 := fun_mk (st := s_law_times) l33 c33 k33
  have b33 := F33.binds (ps := ["box"]) fun _ _ _ _ _ _ us hl => match us, hl with | [_], _ => rfl
  have F34 := fun_mk (st := s_law_run) l34 c34 k34
  have b34 := F34.binds (ps := ["box", "names"]) fun _ _ _ _ _ _ us hl => match us, hl with | [_, _], _ => rfl
  have F35 := fun_mk (st := s_law_none) l35 c35 k35
  have b35 := F35.binds (ps := ["box", "plan", "step", "strange", "times"]) fun _ _ _ _ _ _ us hl => match us, hl with | [_, _, _, _, _], _ => rfl
  have F36 := fun_mk (st := s_law_said) l36 c36 k36
  have b36 := F36.binds (ps := ["plan", "value"]) fun _ _ _ _ _ _ us hl => match us, hl with | [_, _], _ => rfl
  have F37 := fun_mk (st := s_law_needs_hold) l37 c37 k37
  have b37 := F37.binds (ps := ["box", "plan", "run", "strange"]) fun _ _ _ _ _ _ us hl => match us, hl with | [_, _, _, _], _ => rfl
  have F38 := fun_mk (st := s_law_sum) l38 c38 k38
  have b38 := F38.binds (ps := ["run"]) fun _ _ _ _ _ _ us hl => match us, hl with | [_], _ => rfl
  have F39 := fun_mk (st := s_law_folded) l39 c39 k39
  have b39 := F39.binds (ps := ["run"]) fun _ _ _ _ _ _ us hl => match us, hl with | [_], _ => rfl
  have F40 := fun_mk (st := s_law_change) l40 c40 k40
  have b40 := F40.binds (ps := ["steps", "pairs"]) fun _ _ _ _ _ _ us hl => match us, hl with | [_, _], _ => rfl
  have F41 := fun_mk (st := s_law) l41 c41 k41
  have b41 := F41.binds (ps := ["script"]) fun _ _ _ _ _ _ us hl => match us, hl with | [_], _ => rfl
  have F_InvalidPlan := fun_mk (st := s_InvalidPlan_i) l_InvalidPlan c_InvalidPlan k_InvalidPlan
  have b_InvalidPlan := F_InvalidPlan.binds (ps := ["self", "word", "at"]) fun _ _ _ _ _ _ us hl => match us, hl with | [_, _, _], _ => rfl
  have F_InvalidRun := fun_mk (st := s_InvalidRun_i) l_InvalidRun c_InvalidRun k_InvalidRun
  have b_InvalidRun := F_InvalidRun.binds (ps := ["self", "at"]) fun _ _ _ _ _ _ us hl => match us, hl with | [_, _], _ => rfl
  have F_NoName := fun_mk (st := s_NoName_i) l_NoName c_NoName k_NoName
  have b_NoName := F_NoName.binds (ps := ["self", "name"]) fun _ _ _ _ _ _ us hl => match us, hl with | [_, _], _ => rfl
  have F_Plan := fun_mk (st := s_Plan_i) l_Plan c_Plan k_Plan
  have b_Plan := F_Plan.binds (ps := ["self", "places", "steps", "start", "end"]) fun _ _ _ _ _ _ us hl => match us, hl with | [_, _, _, _, _], _ => rfl
  let T : Tx K mg :=
    { is_integer := f0
      is_integer_fd := _
      is_integer_F := F0
      is_integer_m := PySem.W.mg_of X G a0
      is_integer_b := b0
      is_count := f1
      is_count_fd := _
      is_count_F := F1
      is_count_m := PySem.W.mg_of X G a1
      is_count_b := b1
      is_name := f2
      is_name_fd := _
      is_name_F := F2
      is_name_m := PySem.W.mg_of X G a2
      is_name_b := b2
      is_pair := f3
      is_pair_fd := _
      is_pair_F := F3
      is_pair_m := PySem.W.mg_of X G a3
      is_pair_b := b3
      first_wrong := f4
      first_wrong_fd := _
      first_wrong_F := F4
      first_wrong_m := PySem.W.mg_of X G a4
      first_wrong_b := b4
      is_heap := f5
      is_heap_fd := _
      is_heap_F := F5
      is_heap_m := PySem.W.mg_of X G a5
      is_heap_b := b5
      added_up := f6
      added_up_fd := _
      added_up_F := F6
      added_up_m := PySem.W.mg_of X G a6
      added_up_b := b6
      amount := f7
      amount_fd := _
      amount_F := F7
      amount_m := PySem.W.mg_of X G a7
      amount_b := b7
      gap := f8
      gap_fd := _
      gap_F := F8
      gap_m := PySem.W.mg_of X G a8
      gap_b := b8
      changes_joined := f9
      changes_joined_fd := _
      changes_joined_F := F9
      changes_joined_m := PySem.W.mg_of X G a9
      changes_joined_b := b9
      change_times := f10
      change_times_fd := _
      change_times_F := F10
      change_times_m := PySem.W.mg_of X G a10
      change_times_b := b10
      need_places := f11
      need_places_fd := _
      need_places_F := F11
      need_places_m := PySem.W.mg_of X G a11
      need_places_b := b11
      need_steps := f12
      need_steps_fd := _
      need_steps_F := F12
      need_steps_m := PySem.W.mg_of X G a12
      need_steps_b := b12
      is_step := f13
      is_step_fd := _
      is_step_F := F13
      is_step_m := PySem.W.mg_of X G a13
      is_step_b := b13
      is_side := f14
      is_side_fd := _
      is_side_F := F14
      is_side_m := PySem.W.mg_of X G a14
      is_side_b := b14
      step_of := f15
      step_of_fd := _
      step_of_F := F15
      step_of_m := PySem.W.mg_of X G a15
      step_of_b := b15
      step_change := f16
      step_change_fd := _
      step_change_F := F16
      step_change_m := PySem.W.mg_of X G a16
      step_change_b := b16
      names_of := f17
      names_of_fd := _
      names_of_F := F17
      names_of_m := PySem.W.mg_of X G a17
      names_of_b := b17
      need_run := f18
      need_run_fd := _
      need_run_F := F18
      need_run_m := PySem.W.mg_of X G a18
      need_run_b := b18
      first_wrong_row := f19
      first_wrong_row_fd := _
      first_wrong_row_F := F19
      first_wrong_row_m := PySem.W.mg_of X G a19
      first_wrong_row_b := b19
      run_sum := f20
      run_sum_fd := _
      run_sum_F := F20
      run_sum_m := PySem.W.mg_of X G a20
      run_sum_b := b20
      sum_change := f21
      sum_change_fd := _
      sum_change_F := F21
      sum_change_m := PySem.W.mg_of X G a21
      sum_change_b := b21
      steps_in := f22
      steps_in_fd := _
      steps_in_F := F22
      steps_in_m := PySem.W.mg_of X G a22
      steps_in_b := b22
      folded := f23
      folded_fd := _
      folded_F := F23
      folded_m := PySem.W.mg_of X G a23
      folded_b := b23
      law_box := f24
      law_box_fd := _
      law_box_F := F24
      law_box_m := PySem.W.mg_of X G a24
      law_box_b := b24
      law_take := f25
      law_take_fd := _
      law_take_F := F25
      law_take_m := PySem.W.mg_of X G a25
      law_take_b := b25
      law_pick := f26
      law_pick_fd := _
      law_pick_F := F26
      law_pick_m := PySem.W.mg_of X G a26
      law_pick_b := b26
      law_mixed := f27
      law_mixed_fd := _
      law_mixed_F := F27
      law_mixed_m := PySem.W.mg_of X G a27
      law_mixed_b := b27
      law_same := f28
      law_same_fd := _
      law_same_F := F28
      law_same_m := PySem.W.mg_of X G a28
      law_same_b := b28
      law_names := f29
      law_names_fd := _
      law_names_F := F29
      law_names_m := PySem.W.mg_of X G a29
      law_names_b := b29
      law_heap := f30
      law_heap_fd := _
      law_heap_F := F30
      law_heap_m := PySem.W.mg_of X G a30
      law_heap_b := b30
      law_plan := f31
      law_plan_fd := _
      law_plan_F := F31
      law_plan_m := PySem.W.mg_of X G a31
      law_plan_b := b31
      law_strange := f32
      law_strange_fd := _
      law_strange_F := F32
      law_strange_m := PySem.W.mg_of X G a32
      law_strange_b := b32
      law_times := f33
      law_times_fd := _
      law_times_F := F33
      law_times_m := PySem.W.mg_of X G a33
      law_times_b := b33
      law_run := f34
      law_run_fd := _
      law_run_F := F34
      law_run_m := PySem.W.mg_of X G a34
      law_run_b := b34
      law_none := f35
      law_none_fd := _
      law_none_F := F35
      law_none_m := PySem.W.mg_of X G a35
      law_none_b := b35
      law_said := f36
      law_said_fd := _
      law_said_F := F36
      law_said_m := PySem.W.mg_of X G a36
      law_said_b := b36
      law_needs_hold := f37
      law_needs_hold_fd := _
      law_needs_hold_F := F37
      law_needs_hold_m := PySem.W.mg_of X G a37
      law_needs_hold_b := b37
      law_sum := f38
      law_sum_fd := _
      law_sum_F := F38
      law_sum_m := PySem.W.mg_of X G a38
      law_sum_b := b38
      law_folded := f39
      law_folded_fd := _
      law_folded_F := F39
      law_folded_m := PySem.W.mg_of X G a39
      law_folded_b := b39
      law_change := f40
      law_change_fd := _
      law_change_F := F40
      law_change_m := PySem.W.mg_of X G a40
      law_change_b := b40
      law := fa
      law_fd := _
      law_F := F41
      law_m := PySem.W.mg_of X G a41
      law_b := b41
      CaseError := C_CaseError
      CaseError_m := PySem.W.mg_of X G a_CaseError
      CaseError_E := Xc.erB_ok Xc.tail_exc e_CaseError
      InvalidPlan := C_InvalidPlan
      InvalidPlan_m := PySem.W.mg_of X G a_InvalidPlan
      InvalidPlan_E := Xc.erB_ok Xc.tail_exc e_InvalidPlan
      InvalidPlan_i := I_InvalidPlan
      InvalidPlan_fd := _
      InvalidPlan_F := F_InvalidPlan
      InvalidPlan_b := b_InvalidPlan
      InvalidPlan_iC := i_InvalidPlan
      InvalidPlan_tI := t_InvalidPlan
      InvalidRun := C_InvalidRun
      InvalidRun_m := PySem.W.mg_of X G a_InvalidRun
      InvalidRun_E := Xc.erB_ok Xc.tail_exc e_InvalidRun
      InvalidRun_i := I_InvalidRun
      InvalidRun_fd := _
      InvalidRun_F := F_InvalidRun
      InvalidRun_b := b_InvalidRun
      InvalidRun_iC := i_InvalidRun
      InvalidRun_tI := t_InvalidRun
      NoName := C_NoName
      NoName_m := PySem.W.mg_of X G a_NoName
      NoName_E := Xc.erB_ok Xc.tail_key e_NoName
      NoName_i := I_NoName
      NoName_fd := _
      NoName_F := F_NoName
      NoName_b := b_NoName
      NoName_iC := i_NoName
      NoName_tI := t_NoName
      Plan := C_Plan
      Plan_m := PySem.W.mg_of X G a_Plan
      Plan_i := I_Plan
      Plan_fd := _
      Plan_F := F_Plan
      Plan_b := b_Plan
      Plan_iC := i_Plan
      Plan_M := mkB_ok m_Plan i_Plan
      Plan_O := o_Plan
      Plan_nend := n_Plan_end
      Plan_nplaces := n_Plan_places
      Plan_nstart := n_Plan_start
      Plan_nsteps := n_Plan_steps
      tab := tab
      z_abs := PySem.W.mg_none_of X G z_abs
      z_all := PySem.W.mg_none_of X G z_all
      z_bool := PySem.W.mg_none_of X G z_bool
      z_dict := PySem.W.mg_none_of X G z_dict
      z_enumerate := PySem.W.mg_none_of X G z_enumerate
      z_int := PySem.W.mg_none_of X G z_int
      z_isinstance := PySem.W.mg_none_of X G z_isinstance
      z_len := PySem.W.mg_none_of X G z_len
      z_list := PySem.W.mg_none_of X G z_list
      z_max := PySem.W.mg_none_of X G z_max
      z_range := PySem.W.mg_none_of X G z_range
      z_sorted := PySem.W.mg_none_of X G z_sorted
      z_str := PySem.W.mg_none_of X G z_str
      z_sum := PySem.W.mg_none_of X G z_sum
      z_tuple := PySem.W.mg_none_of X G z_tuple
      z_zip := PySem.W.mg_none_of X G z_zip
      LETTERS_t := t_LETTERS
      LETTERS_m := PySem.W.mg_of X G g_LETTERS
      LONGEST_NAME_t := t_LONGEST_NAME
      LONGEST_NAME_m := PySem.W.mg_of X G g_LONGEST_NAME
      MOST_PAPERS_t := t_MOST_PAPERS
      MOST_PAPERS_m := PySem.W.mg_of X G g_MOST_PAPERS }
  exact ⟨PySem.W.fnOf "law" "law" (defArgs s_law) (defBody s_law) (defScope s_law) .none kV41 dc41 pm41 an41 cd41 ct41, fun s v => .of_eq rfl, fun base _ _ => law_ok T⟩
end K09
open PySem PySem.W PyProof.Rows
set_option maxRecDepth 100000 in
set_option maxHeartbeats 0 in
theorem PySem.Challenge.cw_caseshome_k09_rows_of_runs_and_their_sum_holds : PySem.Challenge.rw_caseshome_k09_rows_of_runs_and_their_sum.Holds := by
  w_on; o_law; k_head; (case hw => w_witness2)
  k_fill
  refine L2.walk_of (l := PySem.Challenge.rw_caseshome_k09_rows_of_runs_and_their_sum) (n := 63) (k := 10) (x := "script") (CX := fun w => L2.CX PySem.Challenge.rw_caseshome_k09_rows_of_runs_and_their_sum.prog w) (sp := fun w => Pd.spLaw _) rfl (by decide) rfl ⟨rfl, by decide, by decide⟩ (fun w h Y => PySem.W.kIn_of Y) ?F (fun _ _ a ns hl _ hS => ⟨a, ns, rfl, hS, hl, fun _ => rfl⟩) (fun _ _ _ _ _ h => Pd.cxNo h)
  case F =>
    intro w mg fa h KX G hmg
    refine' K09.all_mk KX G hmg ?a0 ?l0 ?c0 ?k0 ?a1 ?l1 ?c1 ?k1 ?a2 ?l2 ?c2 ?k2 ?a3 ?l3 ?c3 ?k3 ?a4 ?l4 ?c4 ?k4 ?a5 ?l5 ?c5 ?k5 ?a6 ?l6 ?c6 ?k6 ?a7 ?l7 ?c7 ?k7 ?a8 ?l8 ?c8 ?k8 ?a9 ?l9 ?c9 ?k9 ?a10 ?l10 ?c10 ?k10 ?a11 ?l11 ?c11 ?k11 ?a12 ?l12 ?c12 ?k12 ?a13 ?l13 ?c13 ?k13 ?a14 ?l14 ?c14 ?k14 ?a15 ?l15 ?c15 ?k15 ?a16 ?l16 ?c16 ?k16 ?a17 ?l17 ?c17 ?k17 ?a18 ?l18 ?c18 ?k18 ?a19 ?l19 ?c19 ?k19 ?a20 ?l20 ?c20 ?k20 ?a21 ?l21 ?c21 ?k21 ?a22 ?l22 ?c22 ?k22 ?a23 ?l23 ?c23 ?k23 ?a24 ?l24 ?c24 ?k24 ?a25 ?l25 ?c25 ?k25 ?a26 ?l26 ?c26 ?k26 ?a27 ?l27 ?c27 ?k27 ?a28 ?l28 ?c28 ?k28 ?a29 ?l29 ?c29 ?k29 ?a30 ?l30 ?c30 ?k30 ?a31 ?l31 ?c31 ?k31 ?a32 ?l32 ?c32 ?k32 ?a33 ?l33 ?c33 ?k33 ?a34 ?l34 ?c34 ?k34 ?a35 ?l35 ?c35 ?k35 ?a36 ?l36 ?c36 ?k36 ?a37 ?l37 ?c37 ?k37 ?a38 ?l38 ?c38 ?k38 ?a39 ?l39 ?c39 ?k39 ?a40 ?l40 ?c40 ?k40 ?a41 ?l41 ?c41 ?k41 ?z_abs ?z_all ?z_bool ?z_dict ?z_enumerate ?z_int ?z_isinstance ?z_len ?z_list ?z_max ?z_range ?z_sorted ?z_str ?z_sum ?z_tuple ?z_zip ?g_LETTERS ?g_LONGEST_NAME ?g_MOST_PAPERS ?a_CaseError ?e_CaseError ?a_InvalidPlan ?e_InvalidPlan ?i_InvalidPlan ?t_InvalidPlan ?l_InvalidPlan ?c_InvalidPlan ?k_InvalidPlan ?a_InvalidRun ?e_InvalidRun ?i_InvalidRun ?t_InvalidRun ?l_InvalidRun ?c_InvalidRun ?k_InvalidRun ?a_NoName ?e_NoName ?i_NoName ?t_NoName ?l_NoName ?c_NoName ?k_NoName ?a_Plan ?i_Plan ?l_Plan ?c_Plan ?k_Plan ?m_Plan ?o_Plan ?n_Plan_end ?n_Plan_places ?n_Plan_start ?n_Plan_steps ?tab
    (case a0 => k_is)
    (case l0 => k_is)
    (case c0 => k_is)
    (case k0 => k_is)
    (case a1 => k_is)
    (case l1 => k_is)
    (case c1 => k_is)
    (case k1 => k_is)
    (case a2 => k_is)
    (case l2 => k_is)
    (case c2 => k_is)
    (case k2 => k_is)
    (case a3 => k_is)
    (case l3 => k_is)
    (case c3 => k_is)
    (case k3 => k_is)
    (case a4 => k_is)
    (case l4 => k_is)
    (case c4 => k_is)
    (case k4 => k_is)
    (case a5 => k_is)
    (case l5 => k_is)
    (case c5 => k_is)
    (case k5 => k_is)
    (case a6 => k_is)
    (case l6 => k_is)
    (case c6 => k_is)
    (case k6 => k_is)
    (case a7 => k_is)
    (case l7 => k_is)
    (case c7 => k_is)
    (case k7 => k_is)
    (case a8 => k_is)
    (case l8 => k_is)
    (case c8 => k_is)
    (case k8 => k_is)
    (case a9 => k_is)
    (case l9 => k_is)
    (case c9 => k_is)
    (case k9 => k_is)
    (case a10 => k_is)
    (case l10 => k_is)
    (case c10 => k_is)
    (case k10 => k_is)
    (case a11 => k_is)
    (case l11 => k_is)
    (case c11 => k_is)
    (case k11 => k_is)
    (case a12 => k_is)
    (case l12 => k_is)
    (case c12 => k_is)
    (case k12 => k_is)
    (case a13 => k_is)
    (case l13 => k_is)
    (case c13 => k_is)
    (case k13 => k_is)
    (case a14 => k_is)
    (case l14 => k_is)
    (case c14 => k_is)
    (case k14 => k_is)
    (case a15 => k_is)
    (case l15 => k_is)
    (case c15 => k_is)
    (case k15 => k_is)
    (case a16 => k_is)
    (case l16 => k_is)
    (case c16 => k_is)
    (case k16 => k_is)
    (case a17 => k_is)
    (case l17 => k_is)
    (case c17 => k_is)
    (case k17 => k_is)
    (case a18 => k_is)
    (case l18 => k_is)
    (case c18 => k_is)
    (case k18 => k_is)
    (case a19 => k_is)
    (case l19 => k_is)
    (case c19 => k_is)
    (case k19 => k_is)
    (case a20 => k_is)
    (case l20 => k_is)
    (case c20 => k_is)
    (case k20 => k_is)
    (case a21 => k_is)
    (case l21 => k_is)
    (case c21 => k_is)
    (case k21 => k_is)
    (case a22 => k_is)
    (case l22 => k_is)
    (case c22 => k_is)
    (case k22 => k_is)
    (case a23 => k_is)
    (case l23 => k_is)
    (case c23 => k_is)
    (case k23 => k_is)
    (case a24 => k_is)
    (case l24 => k_is)
    (case c24 => k_is)
    (case k24 => k_is)
    (case a25 => k_is)
    (case l25 => k_is)
    (case c25 => k_is)
    (case k25 => k_is)
    (case a26 => k_is)
    (case l26 => k_is)
    (case c26 => k_is)
    (case k26 => k_is)
    (case a27 => k_is)
    (case l27 => k_is)
    (case c27 => k_is)
    (case k27 => k_is)
    (case a28 => k_is)
    (case l28 => k_is)
    (case c28 => k_is)
    (case k28 => k_is)
    (case a29 => k_is)
    (case l29 => k_is)
    (case c29 => k_is)
    (case k29 => k_is)
    (case a30 => k_is)
    (case l30 => k_is)
    (case c30 => k_is)
    (case k30 => k_is)
    (case a31 => k_is)
    (case l31 => k_is)
    (case c31 => k_is)
    (case k31 => k_is)
    (case a32 => k_is)
    (case l32 => k_is)
    (case c32 => k_is)
    (case k32 => k_is)
    (case a33 => k_is)
    (case l33 => k_is)
    (case c33 => k_is)
    (case k33 => k_is)
    (case a34 => k_is)
    (case l34 => k_is)
    (case c34 => k_is)
    (case k34 => k_is)
    (case a35 => k_is)
    (case l35 => k_is)
    (case c35 => k_is)
    (case k35 => k_is)
    (case a36 => k_is)
    (case l36 => k_is)
    (case c36 => k_is)
    (case k36 => k_is)
    (case a37 => k_is)
    (case l37 => k_is)
    (case c37 => k_is)
    (case k37 => k_is)
    (case a38 => k_is)
    (case l38 => k_is)
    (case c38 => k_is)
    (case k38 => k_is)
    (case a39 => k_is)
    (case l39 => k_is)
    (case c39 => k_is)
    (case k39 => k_is)
    (case a40 => k_is)
    (case l40 => k_is)
    (case c40 => k_is)
    (case k40 => k_is)
    (case a41 => k_is)
    (case l41 => k_is)
    (case c41 => k_is)
    (case k41 => k_is)
    (case z_abs => k_is)
    (case z_all => k_is)
    (case z_bool => k_is)
    (case z_dict => k_is)
    (case z_enumerate => k_is)
    (case z_int => k_is)
    (case z_isinstance => k_is)
    (case z_len => k_is)
    (case z_list => k_is)
    (case z_max => k_is)
    (case z_range => k_is)
    (case z_sorted => k_is)
    (case z_str => k_is)
    (case z_sum => k_is)
    (case z_tuple => k_is)
    (case z_zip => k_is)
    (case g_LETTERS => k_is)
    (case g_LONGEST_NAME => k_is)
    (case g_MOST_PAPERS => k_is)
    (case a_CaseError => k_is)
    (case a_InvalidPlan => k_is)
    (case i_InvalidPlan => k_is)
    (case t_InvalidPlan => k_is)
    (case l_InvalidPlan => k_is)
    (case c_InvalidPlan => k_is)
    (case k_InvalidPlan => k_is)
    (case a_InvalidRun => k_is)
    (case i_InvalidRun => k_is)
    (case t_InvalidRun => k_is)
    (case l_InvalidRun => k_is)
    (case c_InvalidRun => k_is)
    (case k_InvalidRun => k_is)
    (case a_NoName => k_is)
    (case i_NoName => k_is)
    (case t_NoName => k_is)
    (case l_NoName => k_is)
    (case c_NoName => k_is)
    (case k_NoName => k_is)
    (case a_Plan => k_is)
    (case i_Plan => k_is)
    (case l_Plan => k_is)
    (case c_Plan => k_is)
    (case k_Plan => k_is)
    (case n_Plan_end => k_is)
    (case n_Plan_places => k_is)
    (case n_Plan_start => k_is)
    (case n_Plan_steps => k_is)
    (case e_CaseError => kernel_rfl)
    (case e_InvalidPlan => kernel_rfl)
    (case e_InvalidRun => kernel_rfl)
    (case e_NoName => kernel_rfl)
    (case m_Plan => kernel_rfl)
    (case o_Plan => kernel_rfl)
    (case tab => kernel_rfl)
