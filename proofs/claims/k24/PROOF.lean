import PyProof.Rows.All
import Wide.All
import OpenK.AllK
import Wide.FinOn
import HandS.ForMost
import HandS.Wide
import HandS.WideBits
import HandS.Gcd
import HandS.IsInst
import HandS.Defaults
import HandS.Style
import HandS.Evl
import KE.GoesZip
import KE.GoesMore
import PySem.Challenge.RW_caseshome_k24_whole_fractions
set_option Elab.async false
set_option linter.all false
set_option maxRecDepth 100000
set_option maxHeartbeats 4000000
/-! Rules of my own over the hand layer: a list that is told by a property alone, calls by keywords alone, // of any great ints. -/
namespace Pre
open PySem PySem.Spec PyProof.Rows L2

/-! ### a list of which a property is known, and no more: whoever changes it keeps the property -/
def LstX (a : Addr) (P : List V → Prop) : HO := .ext fun h => ∃ (xs : List V) (its : List Value) (n : Nat), P xs ∧ xs.length ≤ sizeLine ∧ Vals xs its ∧ h.get? a = some { cls := .type "list", data := .seq its.toArray n }
section
variable {X : Cx} {pins : List (Addr × Obj)} {σ : L2.St} {H : Hp} {s : Shared} {a : Addr} {P : List V → Prop} {xs : List V} {o : HO}
theorem redesc {ob : Obj} (I : Inv X pins σ H s) (mu : Mut (H a)) (hg : s.heap.get? a = some ob) (new : ObjOk X.prog X.w (upd H a o) s.heap a o) : Inv X pins σ (upd H a o) s :=
  I.write (e := a) (h' := s.heap) (t' := s.toks) mu (.inl rfl) (fun _ _ _ q => q) ⟨_, hg⟩ new
theorem open_inv (I : Inv X pins σ H s) (h : H a = some (LstX a P)) : ∃ xs, P xs ∧ xs.length ≤ sizeLine ∧ Inv X pins σ (upd H a (.lst xs)) s := by
  obtain ⟨⟨xs, its, n, p, hz, hv, hg⟩, _, _⟩ := I.hok a _ h
  refine ⟨xs, p, hz, redesc I ?_ hg ⟨hz, its, n, hv, hg⟩⟩
  rw [h]
  exact True.intro
theorem close_inv (I : Inv X pins σ H s) (h : H a = some (.lst xs)) (p : P xs) : Inv X pins σ (upd H a (LstX a P)) s := by
  obtain ⟨hz, its, n, hv, hg⟩ := I.hok a _ h
  refine redesc I ?_ hg ⟨⟨xs, its, n, p, hz, hv, hg⟩, ⟨_, hg⟩, fun h1 h2 ⟨xs, its, n, p, hz, hv, hg⟩ k => ⟨xs, its, n, p, hz, hv, k _ hg⟩⟩
  rw [h]
  exact True.intro
/-- ahead of a body: such a list is looked into -/
def tOpen (t : TS) : TS := fun D σ H => ∃ (a : Addr) (P : List V → Prop), H a = some (LstX a P) ∧ ∀ xs, P xs → xs.length ≤ sizeLine → t D σ (upd H a (.lst xs))
theorem pss_open {body : List Stmt} {t : TS} (h : PSs X body t) : PSs X body (tOpen t) := ⟨fun pins s σ H D I q => by
  obtain ⟨a, P, ha, k⟩ := q
  obtain ⟨xs, p, hz, I1⟩ := open_inv I ha
  exact h.run pins s σ _ D I1 (k xs p hz)⟩
/-- behind a value: the list is shut again -/
def tClose (te : TE) : TE := fun σ H Q => te σ H fun v H1 => ∃ (a : Addr) (P : List V → Prop) (xs : List V), H1 a = some (.lst xs) ∧ P xs ∧ Q v (upd H1 a (LstX a P))
theorem pe_close {e : Expr} {te : TE} (h : PE X e te) : PE X e (tClose te) := ⟨fun pins s σ H Q I q => thn (h.run pins s σ H _ I q) fun v s1 ⟨x, H1, I1, r, a, P, xs, hx, p, q⟩ => ⟨x, _, close_inv I1 hx p, r, q⟩⟩
end

/-! ### calls by keywords alone -/
section
variable {X : Cx} {CX : CXT} {k : Nat} {f : Addr} {fd : FuncData} {ps ks : List Str} {sp : Sp} {E : XK} {x : Str} {p pos : Pos} {kws : List Keyword} {tk : TA} {g : List Value → List Value → List Value} {gV : List V → List V → List V}
theorem pe_callK0 (F : FnOk X.prog X.w X.K X.mg X.base CX k f fd ps sp) (hr : Room k X.A) (hg : Gl X x) (hm : X.mg x = some (.ref f)) (hk : PySem.W.keepIn X.K (.ref f) = true) (hb : KBn X.K fd ps 0 ks g gV) (hx : Passes CX X E) (hkw : PK X kws tk)
    (hall : (backToKw pos (keywordEach kws X.env)).all (·.1.isSome) = true := by rfl) (hks : (backToKw pos (keywordEach kws X.env)).filterMap (·.1) = ks := by rfl) (hdb : (x == ("__debug__" : Str)) = false := by decide)
    (hpl : ((backTo pos (starEach [] X.env)).any (·.1) || (backToKw pos (keywordEach kws X.env)).any (·.1.isNone)) = false := by rfl) :
    PE X (.Call (.Name x p) [] kws pos) (tCallN 0 ks.length sp gV E tNil tk) := by
  refine ⟨fun pins s σ H Q I h => ?_⟩
  refine wpAny_Call_Name_kw (ld_glob I hg hm ?_ hdb)
  refine PySem.W.callWith_KW0 (h₀ := X.base) I.ok.mod.kin hk hall ?_ hpl
  refine thn (hkw.run pos pins s σ H _ I h) fun ws s2 ⟨zs, H2, I2, rz, l1, l2, q2⟩ => ⟨I2.kIn, ?_⟩
  rw [hks]
  exact run_fnN (us := []) (vs := []) F hr hb hx I2 .nil rz rfl l2 q2
end

/-! ### // of any ints (the divisor below 2 ^ 9000 in size) -/
def CDivG (_ j : Int) : Prop := j ≠ 0 ∧ j.natAbs.log2 < 9000
section
variable {X : Cx}
theorem op_fdivG : OpR X (binaryOp .FloorDiv) (rI CDivG fun i j => .int (i.fdiv j)) := opI fun i j _ _ _ _ _ hc q => floordiv_int hc.1 q (.inl (PyProof.noPylong_of_log2 hc.2))
end
theorem div_ok {i j : Int} {b : Nat} (h : j ≠ 0) (hb : j.natAbs < 2 ^ b) (h0 : 0 < b := by decide) (h9 : b ≤ 9000 := by decide) : CDivG i j := ⟨h, Nat.lt_of_lt_of_le (PySem.Flt.log2_lt_of h0 hb) h9⟩

/-! ### what stays -/
abbrev Ex := Evl.Ex
theorem ex_trk {H H1 H' : Hp} {p : Addr} {o o' : HO} (e : Ex H H1) (n : H p = none) : Ex H (upd H1 p o) := Evl.Ex.mut e n
theorem exg {H H' : Hp} {p : Addr} {o : HO} (e : Ex H H') (h : H p = some o) : H' p = some o := e p o h
theorem exl {K : PySem.W.Frag} {H H' : Hp} {a : Addr} {xs : List V} (e : Ex H H') (h : SqL K H a xs) : SqL K H' a xs := Evl.ex_l e h
theorem ext {K : PySem.W.Frag} {H H' : Hp} {a : Addr} {xs : List V} (e : Ex H H') (h : SqT K H a xs) : SqT K H' a xs := Evl.ex_t e h
theorem ex0 {H : Hp} : Ex H H := fun _ _ h => h
theorem exn {H : Hp} {p : Addr} {o : HO} (h : H p = none) : Ex H (upd H p o) := Evl.Ex.new h
theorem decI (a b : Int) : decide (V.int a = V.int b) = decide (a = b) := by
  by_cases h : a = b
  · rw [h]
    simp
  · rw [decide_eq_false h, decide_eq_false (fun q => h (V.int.inj q))]

/-! ### a list or a tuple, walked -/
/-- the value is a list, or a tuple, of these -/
def SqV (K : PySem.W.Frag) (H : Hp) (a : Addr) (xs : List V) : Prop := SqL K H a xs ∨ SqT K H a xs
theorem SqV.ex {K : PySem.W.Frag} {H H' : Hp} {a : Addr} {xs : List V} (h : SqV K H a xs) (e : Ex H H') : SqV K H' a xs := by
  rcases h with h | h
  · exact .inl (exl e h)
  · exact .inr (ext e h)
def iSeq (K : PySem.W.Frag) (tl : TE) : TI := fun σ H R => iList K tl σ H R ∨ iTup K tl σ H R
theorem pi_seq {X : Cx} {tg l : Expr} {tl : TE} (h : PE X l tl) : PI X tg l (iSeq X.K tl) := ⟨fun pins s σ H R I q => q.elim (fun q => (pi_list h).run pins s σ H R I q) (fun q => (pi_tup h).run pins s σ H R I q)⟩
/-- reads to a value, the heap as it is -/
def Rds (te : TE) (σ : L2.St) (H : Hp) (v : V) : Prop := ∀ Q : VK, Q v H → te σ H Q
theorem rds_var {σ : L2.St} {H : Hp} {i : Nat} {v : V} (h : σ[i]? = some (some v)) : Rds (tVar i) σ H v := fun _ q => ⟨v, h, q⟩
section
variable {K : PySem.W.Frag} {σ : L2.St} {H : Hp} {a : Addr} {xs : List V} {tl : TE} {g : TG} {tb : TS} {D : Ends}
/-- what a for asks of its walk -/
abbrev FK (g : TG) (tb : TS) (D : Ends) (σ : L2.St) : It → Hp → Prop := fun J H1 => ∃ W : Nat → Nat → L2.St → Hp → Prop, (∃ m, W 0 m σ H1) ∧ ∀ i m σ H, W i m σ H → (J.stop i H ∧ D.nx σ H) ∨ (J.go i H ∧ ∃ N : L2.St → Hp → Prop, (∀ σ' H', N σ' H' → ∃ m', m' < m ∧ W (i + 1) m' σ' H') ∧ ∀ x H', J.yld i H x H' → g x σ H' fun σ2 H2 => tb { D with nx := N, ct := N, bk := D.nx } σ2 H2)
theorem for_seq (hl : Rds tl σ H (.ref a)) (hx : SqV K H a xs) (Pv : Nat → L2.St → Hp → Prop) (h0 : Pv 0 σ H) (he : ∀ i σ' H', Pv i σ' H' → Ex H H')
    (hs : ∀ i x σ' H', xs[i]? = some x → Pv i σ' H' → g x σ' H' fun σ2 H2 => tb { D with nx := Pv (i + 1), ct := Pv (i + 1), bk := D.nx } σ2 H2) (hd : ∀ σ' H', Pv xs.length σ' H' → D.nx σ' H') :
    iList K tl σ H (FK g tb D σ) ∨ iTup K tl σ H (FK g tb D σ) := by
  rcases hx with hx | hx
  · exact .inl (hl _ ⟨a, rfl, ⟨xs, hx⟩, for_list Pv h0 (fun i σ' H' _ p => exl (he i σ' H' p) hx) hs hd⟩)
  · exact .inr (hl _ ⟨a, rfl, ⟨xs, hx⟩, for_tup Pv h0 (fun i σ' H' _ p => ext (he i σ' H' p) hx) hs hd⟩)
theorem for_lst (hl : Rds tl σ H (.ref a)) (hx : SqL K H a xs) (Pv : Nat → L2.St → Hp → Prop) (h0 : Pv 0 σ H) (he : ∀ i σ' H', Pv i σ' H' → Ex H H')
    (hs : ∀ i x σ' H', xs[i]? = some x → Pv i σ' H' → g x σ' H' fun σ2 H2 => tb { D with nx := Pv (i + 1), ct := Pv (i + 1), bk := D.nx } σ2 H2) (hd : ∀ σ' H', Pv xs.length σ' H' → D.nx σ' H') : tFor (iList K tl) g tb D σ H :=
  hl _ ⟨a, rfl, ⟨xs, hx⟩, for_list Pv h0 (fun i σ' H' _ p => exl (he i σ' H' p) hx) hs hd⟩

/-! ### comprehensions: what each turn gives, by a relation that stays while tuples stay -/
variable {tt : TT} {te : TE} {vs : List Nat} {Q : Addr → Hp → Prop}
/-- tuples stay -/
def ExT (H H' : Hp) : Prop := ∀ p ys, H p = some (.tup ys) → H' p = some (.tup ys)
theorem ExT.of {H H' : Hp} (e : Ex H H') : ExT H H' := fun p ys h => e p _ h
theorem ExT.lst {H : Hp} {p : Addr} {ys zs : List V} (h : H p = some (.lst ys)) : ExT H (upd H p (.lst zs)) := fun q us hq => by
  rw [upd_ne (ne_of hq h (by intro z; cases z))]
  exact hq
theorem ExT.trans {H H1 H2 : Hp} (a : ExT H H1) (b : ExT H1 H2) : ExT H H2 := fun p ys h => b p ys (a p ys h)
def Stays (R : Nat → V → Hp → Prop) : Prop := ∀ i y H H', ExT H H' → R i y H → R i y H'
/-- behind i turns: the list at Dl; if all turns give, one item each -/
structure Acc (H : Hp) (R : Nat → V → Hp → Prop) (all : Bool) (Dl : Addr) (i : Nat) (H' : Hp) : Prop where
  new : H Dl = none
  ex : Ex H H'
  at_ : ∃ ys : List V, H' Dl = some (.lst ys) ∧ ys.length ≤ i ∧ (all = true → ys.length = i) ∧ (∀ y, y ∈ ys → ∃ j, j < i ∧ R j y H') ∧ (all = true → ∀ j y, ys[j]? = some y → R j y H')
theorem Acc.start {R : Nat → V → Hp → Prop} {all : Bool} {Dl : Addr} (h : H Dl = none) : Acc H R all Dl 0 (upd H Dl (.lst [])) := by
  refine ⟨h, exn h, [], upd_same, Nat.le_refl _, fun _ => rfl, ?_, ?_⟩
  · intro y hy
    cases hy
  · intro _ j y hy
    cases hy
theorem Acc.give {R : Nat → V → Hp → Prop} {all : Bool} {Dl : Addr} {i : Nat} {H1 H4 : Hp} {y : V} (st : Stays R) (A : Acc H R all Dl i H1) (e : Ex H1 H4) (r : R i y H4) (hi : i < 1000) :
    ∃ acc, H4 Dl = some (.lst acc) ∧ acc.length < sizeLine ∧ Acc H R all Dl (i + 1) (upd H4 Dl (.lst (acc ++ [y]))) := by
  obtain ⟨new, ex, ys, h1, h2, h3, h4, h5⟩ := A
  have hD := e _ _ h1
  have x1 : ExT H4 (upd H4 Dl (.lst (ys ++ [y]))) := ExT.lst hD
  have x2 : ExT H1 (upd H4 Dl (.lst (ys ++ [y]))) := (ExT.of e).trans x1
  refine ⟨ys, hD, small1000 (by omega), new, Evl.Ex.mut (ex.trans e) new, ys ++ [y], upd_same, ?_, ?_, ?_, ?_⟩
  · rw [List.length_append]
    show ys.length + 1 ≤ i + 1
    omega
  · intro ha
    have := h3 ha
    rw [List.length_append]
    show ys.length + 1 = i + 1
    omega
  · intro z hz
    rcases List.mem_append.mp hz with q | q
    · obtain ⟨j, lt, rj⟩ := h4 z q
      exact ⟨j, by omega, st j z _ _ x2 rj⟩
    · rw [List.mem_singleton.mp q]
      exact ⟨i, by omega, st i y _ _ x1 r⟩
  · intro ha j z hz
    have hl := h3 ha
    by_cases hj : j < ys.length
    · rw [List.getElem?_append_left hj] at hz
      exact st j z _ _ x2 (h5 ha j z hz)
    · rw [List.getElem?_append_right (by omega)] at hz
      have hj0 : j - ys.length = 0 := by
        cases hq : j - ys.length with
        | zero => rfl
        | succ m =>
          rw [hq] at hz
          simp at hz
      rw [hj0] at hz
      have ez : y = z := Option.some.inj hz
      have ej : j = i := by omega
      rw [← ez, ej]
      exact st i y _ _ x1 r
theorem Acc.skip {R : Nat → V → Hp → Prop} {Dl : Addr} {i : Nat} {H1 H4 : Hp} (st : Stays R) (A : Acc H R false Dl i H1) (e : Ex H1 H4) : Acc H R false Dl (i + 1) H4 := by
  obtain ⟨new, ex, ys, h1, h2, h3, h4, h5⟩ := A
  refine ⟨new, ex.trans e, ys, e _ _ h1, by omega, fun q => (Bool.false_ne_true q).elim, ?_, fun q => (Bool.false_ne_true q).elim⟩
  intro z hz
  obtain ⟨j, lt, rj⟩ := h4 z hz
  exact ⟨j, by omega, st j z _ _ (ExT.of e) rj⟩
/-- what a comprehension has made -/
def Made (H : Hp) (R : Nat → V → Hp → Prop) (n : Nat) (Q : Addr → Hp → Prop) : Prop := ∀ (Dl : Addr) (H' : Hp) (ys : List V), H Dl = none → Ex H H' → H' Dl = some (.lst ys) → ys.length = n → (∀ (j : Nat) y, ys[j]? = some y → R j y H') → Q Dl H'
def Kept (H : Hp) (R : Nat → V → Hp → Prop) (n : Nat) (Q : Addr → Hp → Prop) : Prop := ∀ (Dl : Addr) (H' : Hp) (ys : List V), H Dl = none → Ex H H' → H' Dl = some (.lst ys) → ys.length ≤ n → (∀ y, y ∈ ys → ∃ j, j < n ∧ R j y H') → Q Dl H'
theorem Acc.made {R : Nat → V → Hp → Prop} {Dl : Addr} {n : Nat} {H1 : Hp} (A : Acc H R true Dl n H1) (k : Made H R n Q) : Q Dl H1 := by
  obtain ⟨new, ex, ys, h1, h2, h3, h4, h5⟩ := A
  exact k Dl H1 ys new ex h1 (h3 rfl) (h5 rfl)
theorem Acc.kept {R : Nat → V → Hp → Prop} {Dl : Addr} {n : Nat} {H1 : Hp} (A : Acc H R false Dl n H1) (k : Kept H R n Q) : Q Dl H1 := by
  obtain ⟨new, ex, ys, h1, h2, h3, h4, h5⟩ := A
  exact k Dl H1 ys new ex h1 h2 h4
theorem if_t {A B : Prop} : (if (true = true) then A else B) = A := if_pos rfl
/-- a turn that gives, told for any wish Y; a turn with a test, for any wishes Y and N -/
def Gives (g : TG) (te : TE) (vs : List Nat) (σ : L2.St) (x : V) (H1 : Hp) (R : V → Hp → Prop) : Prop :=
  ∀ Y : VK, (∀ y H4, Ex H1 H4 → R y H4 → Y y H4) → g x (wipe σ vs) H1 fun σ2 H2 => wipe σ2 vs = wipe σ vs ∧ te σ2 H2 Y
def Tests (g : TG) (tt : TT) (te : TE) (vs : List Nat) (σ : L2.St) (x : V) (H1 : Hp) (R : V → Hp → Prop) : Prop :=
  ∀ (Y : VK) (N : Hp → Prop), (∀ y H4, Ex H1 H4 → R y H4 → Y y H4) → (∀ H3, Ex H1 H3 → N H3) → g x (wipe σ vs) H1 fun σ2 H2 => wipe σ2 vs = wipe σ vs ∧ tt σ2 H2 fun b H3 => if b = true then te σ2 H3 Y else N H3
theorem Gives.tests {x : V} {H1 : Hp} {R : V → Hp → Prop} (h : Gives g te vs σ x H1 R) : Tests g tYes te vs σ x H1 R := fun Y N hy hn => by
  have e : (fun (σ2 : L2.St) (H2 : Hp) => wipe σ2 vs = wipe σ vs ∧ tYes σ2 H2 fun b H3 => if b = true then te σ2 H3 Y else N H3) = fun σ2 H2 => wipe σ2 vs = wipe σ vs ∧ te σ2 H2 Y := by
    funext σ2 H2
    exact congrArg (And (wipe σ2 vs = wipe σ vs)) (if_t (A := te σ2 H2 Y) (B := N H2))
  rw [e]
  exact h Y hy
theorem turn_of {R : Nat → V → Hp → Prop} {all : Bool} {Dl : Addr} {i : Nat} {x : V} {H1 : Hp} (st : Stays R) (A : Acc H R all Dl i H1) (hi : i < 1000) (hs : Tests g tt te vs σ x H1 (R i)) (hn : all = true → tt = tYes) :
    g x (wipe σ vs) H1 fun σ2 H2 => wipe σ2 vs = wipe σ vs ∧ tt σ2 H2 fun b H3 => if b = true then te σ2 H3 fun y H4 => ∃ acc, H4 Dl = some (.lst acc) ∧ acc.length < sizeLine ∧ Acc H R all Dl (i + 1) (upd H4 Dl (.lst (acc ++ [y]))) else Acc H R all Dl (i + 1) H3 := by
  cases all with
  | false => exact hs _ _ (fun y H4 e r => A.give st e r hi) (fun H3 e => A.skip st e)
  | true =>
    have ht := hn rfl
    subst ht
    have q := hs (fun y H4 => ∃ acc, H4 Dl = some (.lst acc) ∧ acc.length < sizeLine ∧ Acc H R true Dl (i + 1) (upd H4 Dl (.lst (acc ++ [y])))) (fun _ => True) (fun y H4 e r => A.give st e r hi) (fun _ _ => True.intro)
    have e : ∀ N : Hp → Prop, (fun (σ2 : L2.St) (H2 : Hp) => wipe σ2 vs = wipe σ vs ∧ tYes σ2 H2 fun b H3 => if b = true then te σ2 H3 fun y H4 => ∃ acc, H4 Dl = some (.lst acc) ∧ acc.length < sizeLine ∧ Acc H R true Dl (i + 1) (upd H4 Dl (.lst (acc ++ [y]))) else N H3) = fun σ2 H2 => wipe σ2 vs = wipe σ vs ∧ te σ2 H2 fun y H4 => ∃ acc, H4 Dl = some (.lst acc) ∧ acc.length < sizeLine ∧ Acc H R true Dl (i + 1) (upd H4 Dl (.lst (acc ++ [y]))) := fun N => by
      funext σ2 H2
      exact congrArg (And (wipe σ2 vs = wipe σ vs)) (if_t (B := N H2))
    rw [e]
    rw [e] at q
    exact q
section
variable {R : Nat → V → Hp → Prop}
/-- what is wanted of the list made at Dl -/
def MadeAt (H : Hp) (R : Nat → V → Hp → Prop) (n : Nat) (Dl : Addr) (Qd : Hp → Prop) : Prop := ∀ (H' : Hp) (ys : List V), Ex H H' → H' Dl = some (.lst ys) → ys.length = n → (∀ (j : Nat) y, ys[j]? = some y → R j y H') → Qd H'
def KeptAt (H : Hp) (R : Nat → V → Hp → Prop) (n : Nat) (Dl : Addr) (Qd : Hp → Prop) : Prop := ∀ (H' : Hp) (ys : List V), Ex H H' → H' Dl = some (.lst ys) → ys.length ≤ n → (∀ y, y ∈ ys → ∃ j, j < n ∧ R j y H') → Qd H'
theorem Acc.madeAt {R : Nat → V → Hp → Prop} {Dl : Addr} {n : Nat} {H1 : Hp} {Qd : Hp → Prop} (A : Acc H R true Dl n H1) (k : MadeAt H R n Dl Qd) : Qd H1 := by
  obtain ⟨new, ex, ys, h1, h2, h3, h4, h5⟩ := A
  exact k H1 ys ex h1 (h3 rfl) (h5 rfl)
theorem Acc.keptAt {R : Nat → V → Hp → Prop} {Dl : Addr} {n : Nat} {H1 : Hp} {Qd : Hp → Prop} (A : Acc H R false Dl n H1) (k : KeptAt H R n Dl Qd) : Qd H1 := by
  obtain ⟨new, ex, ys, h1, h2, h3, h4, h5⟩ := A
  exact k H1 ys ex h1 h2 h4
variable {Qd : Hp → Prop}
def made_range {lo : Int} {n : Nat} (st : Stays R) (hn : n ≤ 1000) (hs : ∀ i H1, i < n → Ex H H1 → Gives g te vs σ (.int (lo + i)) H1 (R i)) {Dl : Addr} (hD : H Dl = none) (k : MadeAt H R n Dl Qd) :=
  lc_range (lo := lo) (n := n) (g := g) (tt := tYes) (te := te) (vs := vs) (σ := σ) (H1 := H) (D := Dl) (Qd := Qd) (Acc H R true Dl) (Acc.start hD) (fun i H1 hi A => turn_of st A (by omega) (hs i H1 hi A.ex).tests fun _ => rfl) (fun _ A => A.madeAt k)
def made_list (st : Stays R) (hx : SqL K H a xs) (hn : xs.length ≤ 1000) (hs : ∀ i x H1, xs[i]? = some x → Ex H H1 → Gives g te vs σ x H1 (R i)) {Dl : Addr} (hD : H Dl = none) (k : MadeAt H R xs.length Dl Qd) :=
  lc_list (K := K) (a := a) (xs := xs) (g := g) (tt := tYes) (te := te) (vs := vs) (σ := σ) (H1 := H) (D := Dl) (Qd := Qd) (Acc H R true Dl) (Acc.start hD) (fun _ _ _ A => exl A.ex hx) (fun i x H1 hi A => turn_of st A (by have := (List.getElem?_eq_some_iff.mp hi).1; omega) (hs i x H1 hi A.ex).tests fun _ => rfl) (fun _ A => A.madeAt k)
def made_tup (st : Stays R) (hx : SqT K H a xs) (hn : xs.length ≤ 1000) (hs : ∀ i x H1, xs[i]? = some x → Ex H H1 → Gives g te vs σ x H1 (R i)) {Dl : Addr} (hD : H Dl = none) (k : MadeAt H R xs.length Dl Qd) :=
  lc_tup (K := K) (a := a) (xs := xs) (g := g) (tt := tYes) (te := te) (vs := vs) (σ := σ) (H1 := H) (D := Dl) (Qd := Qd) (Acc H R true Dl) (Acc.start hD) (fun _ _ _ A => ext A.ex hx) (fun i x H1 hi A => turn_of st A (by have := (List.getElem?_eq_some_iff.mp hi).1; omega) (hs i x H1 hi A.ex).tests fun _ => rfl) (fun _ A => A.madeAt k)
def kept_range {lo : Int} {n : Nat} (st : Stays R) (hn : n ≤ 1000) (hs : ∀ i H1, i < n → Ex H H1 → Tests g tt te vs σ (.int (lo + i)) H1 (R i)) {Dl : Addr} (hD : H Dl = none) (k : KeptAt H R n Dl Qd) :=
  lc_range (lo := lo) (n := n) (g := g) (tt := tt) (te := te) (vs := vs) (σ := σ) (H1 := H) (D := Dl) (Qd := Qd) (Acc H R false Dl) (Acc.start hD) (fun i H1 hi A => turn_of st A (by omega) (hs i H1 hi A.ex) fun q => (Bool.false_ne_true q).elim) (fun _ A => A.keptAt k)
def kept_list (st : Stays R) (hx : SqL K H a xs) (hn : xs.length ≤ 1000) (hs : ∀ i x H1, xs[i]? = some x → Ex H H1 → Tests g tt te vs σ x H1 (R i)) {Dl : Addr} (hD : H Dl = none) (k : KeptAt H R xs.length Dl Qd) :=
  lc_list (K := K) (a := a) (xs := xs) (g := g) (tt := tt) (te := te) (vs := vs) (σ := σ) (H1 := H) (D := Dl) (Qd := Qd) (Acc H R false Dl) (Acc.start hD) (fun _ _ _ A => exl A.ex hx) (fun i x H1 hi A => turn_of st A (by have := (List.getElem?_eq_some_iff.mp hi).1; omega) (hs i x H1 hi A.ex) fun q => (Bool.false_ne_true q).elim) (fun _ A => A.keptAt k)
/-- what a comprehension asks of its walk -/
abbrev LK (g : TG) (te : TE) (vs : List Nat) (σ : L2.St) (Q : Addr → Hp → Prop) : It → Hp → Prop := fun J H1 => ∀ D, H1 D = none → ∃ W : Nat → Nat → Hp → Prop, (∃ m, W 0 m (upd H1 D (.lst []))) ∧ ∀ i m H, W i m H →
  (J.stop i H ∧ Q D H) ∨ (J.go i H ∧ ∃ Nx : Hp → Prop, (∀ H', Nx H' → ∃ m', m' < m ∧ W (i + 1) m' H') ∧ ∀ x H', J.yld i H x H' → g x (wipe σ vs) H' fun σ2 H2 => wipe σ2 vs = wipe σ vs ∧ tYes σ2 H2 fun b H3 =>
    if b = true then te σ2 H3 fun y H4 => ∃ acc, H4 D = some (.lst acc) ∧ acc.length < sizeLine ∧ Nx (upd H4 D (.lst (acc ++ [y]))) else Nx H3)
theorem made_seq {tl : TE} (hl : Rds tl σ H (.ref a)) (st : Stays R) (hx : SqV K H a xs) (hn : xs.length ≤ 1000) (hs : ∀ i x H1, xs[i]? = some x → Ex H H1 → Gives g te vs σ x H1 (R i)) (k : Made H R xs.length Q) :
    iList K tl σ H (LK g te vs σ Q) ∨ iTup K tl σ H (LK g te vs σ Q) := by
  rcases hx with hx | hx
  · exact .inl (hl _ ⟨a, rfl, ⟨xs, hx⟩, fun Dl hD => made_list st hx hn hs hD fun H' ys e h1 h2 h3 => k Dl H' ys hD e h1 h2 h3⟩)
  · exact .inr (hl _ ⟨a, rfl, ⟨xs, hx⟩, fun Dl hD => made_tup st hx hn hs hD fun H' ys e h1 h2 h3 => k Dl H' ys hD e h1 h2 h3⟩)
end
end

/-! ### sizes -/
/-- the size of an int -/
def Sz (n : Nat) (i : Int) : Prop := i.natAbs < 2 ^ n
theorem Sz.mono {m n : Nat} {i : Int} (h : Sz m i) (k : m ≤ n) : Sz n i := Nat.lt_of_lt_of_le h (Nat.pow_le_pow_right (by decide) k)
theorem Sz.mul {m n : Nat} {i j : Int} (h : Sz m i) (k : Sz n j) : Sz (m + n) (i * j) := by
  unfold Sz
  rw [Int.natAbs_mul, Nat.pow_add]
  exact Nat.mul_lt_mul'' h k
theorem Sz.add {m n : Nat} {i j : Int} (h : Sz m i) (k : Sz n j) : Sz (max m n + 1) (i + j) := by
  have e : (i + j).natAbs ≤ i.natAbs + j.natAbs := Int.natAbs_add_le i j
  have h' : i.natAbs < 2 ^ (max m n) := h.mono (Nat.le_max_left _ _)
  have k' : j.natAbs < 2 ^ (max m n) := k.mono (Nat.le_max_right _ _)
  unfold Sz
  rw [Nat.pow_succ]
  omega
theorem Sz.neg {n : Nat} {i : Int} (h : Sz n i) : Sz n (-i) := by
  unfold Sz
  rw [Int.natAbs_neg]
  exact h
theorem Sz.sub {m n : Nat} {i j : Int} (h : Sz m i) (k : Sz n j) : Sz (max m n + 1) (i - j) := by
  have e : i - j = i + -j := Int.sub_eq_add_neg
  rw [e]
  exact h.add k.neg
theorem Sz.le {n : Nat} {i j : Int} (h : Sz n j) (k : i.natAbs ≤ j.natAbs) : Sz n i := Nat.lt_of_le_of_lt k h
theorem Sz.lt {n : Nat} {i : Int} {b : Int} (h0 : 0 ≤ i) (h : i < b) (hb : b ≤ ((2 ^ n : Nat) : Int)) : Sz n i := by
  unfold Sz
  omega
theorem mul_ok {m n : Nat} {i j : Int} (h : Sz m i) (k : Sz n j) (h0 : 0 < m := by decide) (h1 : 0 < n := by decide) (hm : m + n ≤ 1000000 := by decide) : CMulW i j := wide_mul h k h0 h1 hm
theorem mul_okE {m n : Nat} {i j : Int} (h : Sz m i) (k : Sz n j) (h0 : 0 < m) (h1 : 0 < n) (hm : m + n ≤ 1000000) : CMulW i j := wide_mul h k h0 h1 hm
theorem fdiv_okE {n : Nat} {i j : Int} (h : j ≠ 0) (k : Sz n j) (h0 : 0 < n) (hn : n ≤ 9000) : CDivG i j := div_ok h k h0 hn
theorem fdiv_ok {n : Nat} {i j : Int} (h : j ≠ 0) (k : Sz n j) (h0 : 0 < n := by decide) (hn : n ≤ 9000 := by decide) : CDivG i j := div_ok h k h0 hn

/-! ### draws: a list of a list of numbers and a number -/
def DIn : List V → Prop := fun xs => ∃ ns : List Int, xs = ns.map V.int ∧ (∀ n, n ∈ ns → 0 ≤ n) ∧ ns.length ≤ 63
def DOut (l : Addr) : List V → Prop := fun xs => ∃ b : Int, xs = [.ref l, .int b] ∧ 0 ≤ b ∧ b < 2147483647
def DrawsAt (H : Hp) (d : Addr) : Prop := ∃ l, d ≠ l ∧ H d = some (LstX d (DOut l)) ∧ H l = some (LstX l DIn)
theorem DrawsAt.ex {H H' : Hp} {d : Addr} (h : DrawsAt H d) (e : Ex H H') : DrawsAt H' d := by
  obtain ⟨l, n, h1, h2⟩ := h
  exact ⟨l, n, e _ _ h1, e _ _ h2⟩
/-- inside: the outer list, the inner one, all else as it was -/
structure Sd (H : Hp) (d l : Addr) (ns : List Int) (b : Int) (H1 : Hp) : Prop where
  hd : H1 d = some (.lst [.ref l, .int b])
  hl : H1 l = some (.lst (ns.map V.int))
  b0 : 0 ≤ b
  b1 : b < 2147483647
  n0 : ∀ n, n ∈ ns → 0 ≤ n
  nl : ns.length ≤ 63
  kp : ∀ x o, H x = some o → x ≠ d → x ≠ l → H1 x = some o
theorem Sd.nil {H : Hp} {d l : Addr} (h : DrawsAt H d) : True := True.intro
theorem Sd.new {H H1 : Hp} {d l : Addr} {ns : List Int} {b : Int} {p : Addr} {o : HO} (S : Sd H d l ns b H1) (np : H1 p = none) : Sd H d l ns b (upd H1 p o) := by
  obtain ⟨hd, hl, b0, b1, n0, nl, kp⟩ := S
  exact ⟨exn np _ _ hd, exn np _ _ hl, b0, b1, n0, nl, fun x o h a b => exn np _ _ (kp x o h a b)⟩
theorem Sd.inner {H H1 : Hp} {d l : Addr} {ns ms : List Int} {b : Int} (S : Sd H d l ns b H1) (hdl : d ≠ l) (m0 : ∀ n, n ∈ ms → 0 ≤ n) (ml : ms.length ≤ 63) : Sd H d l ms b (upd H1 l (.lst (ms.map V.int))) := by
  obtain ⟨hd, hl, b0, b1, n0, nl, kp⟩ := S
  exact ⟨by rw [upd_ne hdl]; exact hd, upd_same, b0, b1, m0, ml, fun x o h a b => by rw [upd_ne b]; exact kp x o h a b⟩
theorem Sd.outer {H H1 : Hp} {d l : Addr} {ns : List Int} {b c : Int} (S : Sd H d l ns b H1) (hdl : d ≠ l) (c0 : 0 ≤ c) (c1 : c < 2147483647) : Sd H d l ns c (upd H1 d (.lst [.ref l, .int c])) := by
  obtain ⟨hd, hl, b0, b1, n0, nl, kp⟩ := S
  exact ⟨upd_same, by rw [upd_ne hdl.symm]; exact hl, c0, c1, n0, nl, fun x o h a b => by rw [upd_ne a]; exact kp x o h a b⟩
/-- shut again: nothing is seen to have changed -/
theorem Sd.shut {H H1 : Hp} {d l : Addr} {ns : List Int} {b : Int} (S : Sd H d l ns b H1) (hdl : d ≠ l) (h1 : H d = some (LstX d (DOut l))) (h2 : H l = some (LstX l DIn)) : Ex H (upd (upd H1 l (LstX l DIn)) d (LstX d (DOut l))) := fun x o h => by
  by_cases e : x = d
  · subst e
    rw [upd_same, ← h, h1]
  · rw [upd_ne e]
    by_cases e2 : x = l
    · subst e2
      rw [upd_same, ← h, h2]
    · rw [upd_ne e2]
      exact S.kp x o h e e2
theorem DIn.of {ns : List Int} (n0 : ∀ n, n ∈ ns → 0 ≤ n) (nl : ns.length ≤ 63) : DIn (ns.map V.int) := ⟨ns, rfl, n0, nl⟩

/-! ### data: numbers -/
theorem lay_ints : ∀ ns : List Int, PyData.canLayAll0 (ns.map PyData.int) = true
  | [] => by simp [PyData.canLayAll0]
  | n :: ns => by simp [PyData.canLayAll0, PyData.canLay0, lay_ints ns]
theorem depth_ints : ∀ ns : List Int, PyData.depthAll (ns.map PyData.int) = 0
  | [] => by simp [PyData.depthAll]
  | n :: ns => by simp [PyData.depthAll, PyData.depth, depth_ints ns]
theorem shaped_ints (ns : List Int) : SeqAt.shaped (.list (ns.map PyData.int)) = true := by
  show (PyData.canLay0 (.list (ns.map PyData.int)) && decide (PyData.depth (.list (ns.map PyData.int)) ≤ 64)) = true
  rw [Bool.and_eq_true]
  refine ⟨by simp only [PyData.canLay0]; exact lay_ints ns, decide_eq_true ?_⟩
  simp only [PyData.depth, depth_ints ns]
  decide
theorem dp_ints {K : PySem.W.Frag} {H : Hp} : ∀ ns : List Int, DpAll K H (ns.map V.int) (ns.map PyData.int)
  | [] => .nil
  | n :: ns => .cons (.int n) (dp_ints ns)
theorem eqv_nil (ns : List Int) : PyData.eqv (.list (ns.map PyData.int)) (.list []) = ns.isEmpty := by
  cases ns <;> simp [PyData.eqv, PyData.eqvAll]
theorem eqvAll_ints : ∀ ns : List Int, PyData.eqvAll (ns.map PyData.int) (ns.map PyData.int) = true
  | [] => by simp [PyData.eqvAll]
  | n :: ns => by simp [PyData.eqvAll, PyData.eqv, eqvAll_ints ns]
theorem eqv_ints (ns : List Int) : PyData.eqv (.list (ns.map PyData.int)) (.list (ns.map PyData.int)) = true := by
  simp only [PyData.eqv]
  exact eqvAll_ints ns
theorem atI0 {x : V} {xs : List V} : atI (x :: xs) 0 = some x := atI_nat (j := 0) rfl
theorem last_int {ns : List Int} (h : ns ≠ []) : ∃ n, n ∈ ns ∧ atI (ns.map V.int) (-1) = some (.int n) ∧ (ns.map V.int)[(ns.map V.int).length - 1]? = some (.int n) ∧ ns = ns.dropLast ++ [n] := by
  have e : ns = ns.dropLast ++ [ns.getLast h] := (List.dropLast_concat_getLast h).symm
  refine ⟨ns.getLast h, List.getLast_mem h, ?_, ?_, e⟩
  · have e2 : ns.map V.int = ns.dropLast.map V.int ++ [V.int (ns.getLast h)] := by
      rw [← List.map_singleton, ← List.map_append, ← e]
    rw [e2]
    exact atI_last _ _
  · rw [List.length_map, List.getElem?_map, ← List.getLast?_eq_getElem?, List.getLast?_eq_getLast h]
    rfl
/-! ### isinstance -/
theorem kit_t {K : PySem.W.Frag} {H : Hp} {x : V} {t : String} {Q : VK} (ty : TyOf K H x (.type t)) (n : String) (b : Bool) (h : kitB t n = some b) (q : Q (.bl b) H) : rIsi K [x, .ty n] H Q :=
  ⟨x, .ty n, .type t, .type n, b, rfl, .ty n, .base ty, kit_ty h, q⟩
/-! ### data: pairs of numbers in tuples -/
def pairD (f : Int × Int) : PyData := .tuple [.int f.1, .int f.2]
theorem lay_pairs : ∀ fs : List (Int × Int), PyData.canLayAll0 (fs.map pairD) = true
  | [] => by simp [PyData.canLayAll0]
  | f :: fs => by simp [PyData.canLayAll0, PyData.canLay0, pairD, lay_pairs fs]
theorem depth_pairs : ∀ fs : List (Int × Int), PyData.depthAll (fs.map pairD) ≤ 1
  | [] => by simp [PyData.depthAll]
  | f :: fs => by
    have h := depth_pairs fs
    simp only [List.map_cons, PyData.depthAll, pairD, PyData.depth]
    omega
theorem shaped_pairs (fs : List (Int × Int)) : SeqAt.shaped (.list (fs.map pairD)) = true := by
  have h := depth_pairs fs
  have h2 : PyData.depth (.list (fs.map pairD)) ≤ 64 := by
    simp only [PyData.depth]
    omega
  show (PyData.canLay0 (.list (fs.map pairD)) && decide (PyData.depth (.list (fs.map pairD)) ≤ 64)) = true
  rw [Bool.and_eq_true]
  exact ⟨by simp only [PyData.canLay0]; exact lay_pairs fs, decide_eq_true h2⟩
theorem eqvAll_pairs : ∀ fs : List (Int × Int), PyData.eqvAll (fs.map pairD) (fs.map pairD) = true
  | [] => by simp [PyData.eqvAll]
  | f :: fs => by simp [PyData.eqvAll, PyData.eqv, pairD, eqvAll_pairs fs]
theorem eqv_pairs (fs : List (Int × Int)) : PyData.eqv (.list (fs.map pairD)) (.list (fs.map pairD)) = true := by
  simp only [PyData.eqv]
  exact eqvAll_pairs fs
theorem dp_pairs {K : PySem.W.Frag} {H : Hp} : ∀ {xs : List V} {fs : List (Int × Int)}, xs.length = fs.length → (∀ (i : Nat) x f, xs[i]? = some x → fs[i]? = some f → ∃ p, x = .ref p ∧ H p = some (.tup [.int f.1, .int f.2])) → DpAll K H xs (fs.map pairD)
  | [], [], _, _ => .nil
  | x :: xs, f :: fs, hl, h => by
    obtain ⟨p, e, hp⟩ := h 0 x f rfl rfl
    subst e
    exact .cons (.tup (SqT.of hp) (.cons (.int _) (.cons (.int _) .nil))) (dp_pairs (Nat.succ.inj hl) fun i x g a b => h (i + 1) x g a b)
/-! ### slices from and to the last one -/
theorem cut_init (xs : List V) : cutV xs none (some (-1)) = xs.dropLast := by
  unfold cutV
  rw [HT.sIx_none]
  have e : HT.sIx xs.length xs.length (some (-1)) = xs.length - 1 := by
    show (if (-1 : Int) < 0 then ((-1 : Int) + (xs.length : Int)).toNat else min (-1 : Int).toNat xs.length) = xs.length - 1
    rw [if_pos (by decide)]
    omega
  rw [e, List.drop_zero, Nat.sub_zero, List.dropLast_eq_take]
theorem cut_last {xs : List V} {x : V} : cutV (xs ++ [x]) (some (-1)) none = [x] := by
  unfold cutV
  rw [HT.sIx_none]
  have e : HT.sIx (xs ++ [x]).length 0 (some (-1)) = xs.length := by
    show (if (-1 : Int) < 0 then ((-1 : Int) + ((xs ++ [x]).length : Int)).toNat else min (-1 : Int).toNat (xs ++ [x]).length) = xs.length
    rw [if_pos (by decide), List.length_append]
    show ((-1 : Int) + ((xs.length + 1 : Nat) : Int)).toNat = xs.length
    omega
  rw [e, List.drop_append_of_le_length (Nat.le_refl _), List.drop_length, List.length_append]
  show List.take (xs.length + 1 - xs.length) ([] ++ [x]) = [x]
  rw [Nat.add_sub_cancel_left]
  rfl
end Pre
set_option maxRecDepth 100000
set_option maxHeartbeats 4000000
/-! zip over two sequences, each of them a list or a tuple (k: true a list). -/
namespace Pre
open PySem PySem.Spec PyProof.Rows L2
def SqB (k : Bool) (K : PySem.W.Frag) (H : Hp) (a : Addr) (xs : List V) : Prop := if k = true then SqL K H a xs else SqT K H a xs
def PlB (k : Bool) (h : Heap) (a : Addr) (its : Array Value) : Prop := if k = true then h.IsList a its else h.IsTuple a its
def ItB (k : Bool) (h : Heap) (it a : Addr) (i : Nat) : Prop := if k = true then h.IsListIter it a i else h.IsTupleIter it a i
def obB (k : Bool) (a : Addr) : Obj := { cls := .type (if k = true then "list_iterator" else "tuple_iterator"), data := .fields #[.ref a, .int 0 0] }
theorem SqB.ex {k : Bool} {K : PySem.W.Frag} {H H' : Hp} {a : Addr} {xs : List V} (h : SqB k K H a xs) (e : Ex H H') : SqB k K H' a xs := by
  cases k
  · exact ext (K := K) e h
  · exact exl (K := K) e h
theorem sqB_of {K : PySem.W.Frag} {H : Hp} {a : Addr} {xs : List V} (h : SqV K H a xs) : ∃ k, SqB k K H a xs := by
  rcases h with h | h
  · exact ⟨true, h⟩
  · exact ⟨false, h⟩
section
variable {X : Cx} {pins : List (Addr × Obj)} {σ : L2.St} {H : Hp} {s : Shared} {k : Bool} {a : Addr} {xs ys : List V}
theorem sqB_pl (I : Inv X pins σ H s) (h : SqB k X.K H a xs) : ∃ its : List Value, Vals xs its ∧ PlB k s.heap a its.toArray ∧ a < s.heap.objs.size := by
  cases k
  · obtain ⟨its, r, p, _⟩ := I.tuple (show SqT X.K H a xs from h)
    exact ⟨its, r, p, p.lt⟩
  · obtain ⟨its, r, p, _⟩ := I.list (show SqL X.K H a xs from h)
    exact ⟨its, r, p.isList, p.lt⟩
theorem sqB_inj (I : Inv X pins σ H s) (h : SqB k X.K H a xs) (h' : SqB k X.K H a ys) : xs = ys := by
  cases k
  · exact I.tuple_inj (show SqT X.K H a xs from h) h'
  · exact I.list_inj (show SqL X.K H a xs from h) h'
end
theorem drawsB {prog : Program} {w : World} {A : Around} (hh : A.handled = none) (k : Bool) (it a : Addr) (hne : a ≠ it) (its : Array Value) :
    Draws prog w A it [it, a] its.size (fun i v => its[i]? = some v) (fun i h => ItB k h it a i ∧ PlB k h a its) := by
  cases k
  · exact Draws.tuple hh it a hne its
  · exact Draws.list hh it a hne its
theorem beginsB (k : Bool) (a : Addr) (its : Array Value) : Begins (.ref a) (obB k a) (fun h => PlB k h a its) := by
  cases k
  · exact begins_tuple a its
  · exact begins_list a its
theorem ItB.start {k : Bool} {h : Heap} {it a : Addr} (e : h.get? it = some (obB k a)) : ItB k h it a 0 := by
  cases k
  · exact ⟨_, e, rfl, rfl⟩
  · exact ⟨_, e, rfl, rfl⟩
theorem ItB.look {k : Bool} {h : Heap} {it a : Addr} {i : Nat} (st : ItB k h it a i) : ∃ o, h.get? it = some o ∧ ∀ v, o.data ≠ .cell v := by
  cases k
  · obtain ⟨o, e, _, d⟩ := (show h.IsTupleIter it a i from st)
    exact ⟨o, e, fun v q => by rw [d] at q; cases q⟩
  · obtain ⟨o, e, _, d⟩ := (show h.IsListIter it a i from st)
    exact ⟨o, e, fun v q => by rw [d] at q; cases q⟩
theorem ItB.stay {k : Bool} {h h' : Heap} {it a : Addr} {i : Nat} (st : ItB k h it a i) (kp : ∀ o, h.get? it = some o → h'.get? it = some o) : ItB k h' it a i := by
  cases k
  · exact (show h.IsTupleIter it a i from st).at kp
  · exact (show h.IsListIter it a i from st).at kp

/-- the two sequences as they stand at each turn, their items in new pairs -/
def Itm (k1 k2 : Bool) (K : PySem.W.Frag) (a b : Addr) : It where
  go := fun i H => ∃ (xs ys : List V) (x y : V), SqB k1 K H a xs ∧ SqB k2 K H b ys ∧ xs[i]? = some x ∧ ys[i]? = some y
  yld := fun i H v H' => ∃ T x y, v = .ref T ∧ H T = none ∧ H' = upd H T (.tup [x, y]) ∧ (∀ xs, SqB k1 K H a xs → xs[i]? = some x) ∧ ∀ ys, SqB k2 K H b ys → ys[i]? = some y
  stop := fun i H => ∃ xs ys : List V, SqB k1 K H a xs ∧ SqB k2 K H b ys ∧ xs.length = i ∧ ys.length = i
/-- the zip's state ahead of turn i -/
structure Zst (k1 k2 : Bool) (a b z TI TO i1 i2 : Addr) (i : Nat) (h : Heap) : Prop where
  zip : IsZip h z TI TO .none
  its : IsTupOf2 h TI (.ref i1) (.ref i2)
  out : ∃ x y, IsTupOf2 h TO x y
  one : ItB k1 h i1 a i
  two : ItB k2 h i2 b i
/-- five addresses side by side behind a and b -/
structure Side (n a b z TI TO i1 i2 : Addr) : Prop where
  ha : a < n
  hb : b < n
  e1 : i1 = n
  e2 : i2 = n + 1
  eI : TI = n + 2
  eO : TO = n + 3
  ez : z = n + 4
theorem aparts {x y : Nat} (h : ¬ x = y) : x ≠ y := h
theorem notIn2 {c x y : Nat} (h1 : c ≠ x) (h2 : c ≠ y) : c ∉ [x, y] := fun h => by
  rcases List.mem_cons.mp h with e | e
  · exact h1 e
  · exact h2 (List.mem_singleton.mp e)
theorem sep_of (n a b : Nat) (ha : a < n) (hb : b < n) : ZipSep2 (n + 4) (n + 2) (n + 3) n (n + 1) [n, a] [n + 1, b] where
  TIz := aparts (by omega)
  TOz := aparts (by omega)
  TITO := aparts (by omega)
  TIi1 := aparts (by omega)
  mem1 := List.mem_cons_self ..
  zf1 := notIn2 (by omega) (by omega)
  Tf1 := notIn2 (by omega) (by omega)
  TIi2 := aparts (by omega)
  mem2 := List.mem_cons_self ..
  zf2 := notIn2 (by omega) (by omega)
  Tf2 := notIn2 (by omega) (by omega)
  sep1_2 := notIn2 (by omega) (by omega)
  sep2_1 := notIn2 (by omega) (by omega)
theorem Side.sep {n a b z TI TO i1 i2 : Addr} (S : Side n a b z TI TO i1 i2) : ZipSep2 z TI TO i1 i2 [i1, a] [i2, b] := by
  obtain ⟨ha, hb, rfl, rfl, rfl, rfl, rfl⟩ := S
  exact sep_of i1 a b ha hb
section
variable {P : Program} {w : World} {K : PySem.W.Frag} {elts : List Expr} {kk : Nat} {tpos : Pos} {k1 k2 : Bool} {n a b z TI TO i1 i2 : Addr}
theorem five {c : Addr} (hc : c ∈ [z, TI, TO, i1, i2]) : c = z ∨ c = TI ∨ c = TO ∨ c = i1 ∨ c = i2 := by simpa using hc
theorem Zst.at {i : Nat} {hp : Heap} (st : Zst k1 k2 a b z TI TO i1 i2 i hp) {c : Addr} (hc : c ∈ [z, TI, TO, i1, i2]) : ∃ o, hp.get? c = some o ∧ ∀ v, o.data ≠ .cell v := by
  obtain ⟨hz, hI, ⟨x, y, hO⟩, h1, h2⟩ := st
  rcases five hc with q | q | q | q | q <;> subst q
  · exact ⟨_, hz, fun v q => nomatch q⟩
  · exact ⟨_, hI, fun v q => nomatch q⟩
  · exact ⟨_, hO, fun v q => nomatch q⟩
  · exact h1.look
  · exact h2.look
theorem turn_zipM (S : Side n a b z TI TO i1 i2) : Turn P w K (.Tuple elts kk tpos) (Itm k1 k2 K a b) [z, TI, TO, i1, i2] z (Zst k1 k2 a b z TI TO i1 i2) where
  mem := List.mem_cons_self ..
  obj := fun i h st c hc => st.at hc
  keep := fun i h h' st kp => by
    obtain ⟨hz, hI, ⟨x, y, hO⟩, h1, h2⟩ := st
    exact ⟨kp z (by simp) _ hz, kp TI (by simp) _ hI, ⟨x, y, kp TO (by simp) _ hO⟩, h1.stay fun o q => kp i1 (by simp) o q, h2.stay fun o q => kp i2 (by simp) o q⟩
  item := fun X hP hw hK hc i pins s σ H E I hf st hg => by
    subst hP hw hK
    have D := S.sep
    obtain ⟨xs, ys, x, y, qx, qy, ex, ey⟩ := hg
    obtain ⟨its, r1, p1, _⟩ := sqB_pl I qx
    obtain ⟨jts, r2, p2, _⟩ := sqB_pl I qy
    obtain ⟨u, hu, ru⟩ := r1.get ex
    obtain ⟨v, hv, rv⟩ := r2.get ey
    obtain ⟨hz, hI, ⟨x0, y0, hO⟩, h1, h2⟩ := st
    have hzl : z < s.heap.objs.size := Heap.lt_size hz
    have na : a ≠ i1 := by
      have h := S.ha
      rw [S.e1]
      exact Nat.ne_of_lt h
    have nb : b ≠ i2 := by
      have h := S.hb
      rw [S.e2]
      exact Nat.ne_of_lt (Nat.lt_succ_of_lt h)
    have hh : X.A.in1.handled = none := I.ok.hd hc
    have l1 : i < its.toArray.size := by
      have := (List.getElem?_eq_some_iff.mp hu).1
      simpa using this
    have l2 : i < jts.toArray.size := by
      have := (List.getElem?_eq_some_iff.mp hv).1
      simpa using this
    refine wpAny_pyNext_zipD2_item D (drawsB hh k1 i1 a na its.toArray) (drawsB hh k2 i2 b nb jts.toArray) hz hI hO ⟨h1, p1⟩ ⟨h2, p2⟩ l1 l2 fun u' v' h' tk y1 y2 z' O' s1 s2 hT hsz hk => ?_
    have eu : u' = u := by
      have y1' : its.toArray[i]? = some u' := y1
      have q : its.toArray[i]? = some u := by simpa using hu
      exact Option.some.inj (y1'.symm.trans q)
    have ev : v' = v := by
      have y2' : jts.toArray[i]? = some v' := y2
      have q : jts.toArray[i]? = some v := by simpa using hv
      exact Option.some.inj (y2'.symm.trans q)
    subst eu ev
    refine ⟨_, rfl, wpAny_letOwnedTupleGo_zip (s := { s with heap := h', toks := tk }) z' fun h2' z2' sb => ?_⟩
    have hT2 : h2'.get? s.heap.objs.size = some { cls := .type "tuple", data := .seq #[u', v'] } := (sb.2 _ (Nat.ne_of_gt hzl)).trans hT
    have old : ∀ c o, c ∉ [z, TI, TO, i1, i2] → s.heap.get? c = some o → h2'.get? c = some o := fun c o nc q => by
      simp only [List.mem_cons, List.not_mem_nil, or_false, not_or] at nc
      exact (sb.2 c nc.1).trans (hk c o nc.1 nc.2.2.1 nc.2.2.2.1 nc.2.2.2.2 q)
    have new : ObjOk X.prog X.w (upd H s.heap.objs.size (.tup [x, y])) h2' s.heap.objs.size (.tup [x, y]) :=
      ⟨(by show 2 ≤ sizeLine; decide), [u', v'], Paired.cons ru (Paired.cons rv Paired.nil), ⟨_, hT2, rfl, _, rfl⟩⟩
    have I1 : Inv X pins σ (upd H s.heap.objs.size (.tup [x, y])) { s with heap := h2', toks := tk } := I.turnedNew (t' := tk) (ch := [z, TI, TO, i1, i2]) old hf (Nat.le_refl _) new
    refine ⟨.ref s.heap.objs.size, _, I1, rfl, ⟨_, x, y, rfl, I.hok.fresh (Nat.le_refl _), rfl, fun l hl => ?_, fun l hl => ?_⟩, ⟨z2', ?_, ⟨u', v', ?_⟩, ?_, ?_⟩, fun c hcm => ?_⟩
    · rw [sqB_inj I hl qx]
      exact ex
    · rw [sqB_inj I hl qy]
      exact ey
    · exact (sb.2 _ D.TIz).trans (hk _ _ D.TIz D.TITO D.TIi1 D.TIi2 hI)
    · exact (sb.2 _ D.TOz).trans O'
    · exact s1.1.stay fun o q => (sb.2 _ D.zi1.symm).trans q
    · exact s2.1.stay fun o q => (sb.2 _ D.zi2.symm).trans q
    · obtain ⟨o, eo, _⟩ := (show Zst k1 k2 a b z TI TO i1 i2 i s.heap from ⟨hz, hI, ⟨x0, y0, hO⟩, h1, h2⟩).at hcm
      rw [upd_ne (Nat.ne_of_lt (Heap.lt_size eo))]
      exact (hf c hcm).1
  done := fun X hP hw hK hc i pins s σ H E I hf st hg => by
    subst hP hw hK
    obtain ⟨xs, ys, qx, qy, ex, ey⟩ := hg
    obtain ⟨its, r1, p1, _⟩ := sqB_pl I qx
    obtain ⟨jts, r2, p2, _⟩ := sqB_pl I qy
    obtain ⟨hz, hI, ⟨x0, y0, hO⟩, h1, h2⟩ := st
    have na : a ≠ i1 := by
      have h := S.ha
      rw [S.e1]
      exact Nat.ne_of_lt h
    have nb : b ≠ i2 := by
      have h := S.hb
      rw [S.e2]
      exact Nat.ne_of_lt (Nat.lt_succ_of_lt h)
    have hh : X.A.in1.handled = none := I.ok.hd hc
    have n1 : i = its.toArray.size := by
      rw [List.size_toArray, ← r1.length, ex]
    have n2 : i = jts.toArray.size := by
      rw [List.size_toArray, ← r2.length, ey]
    refine wpAny_pyNext_zipD2_end S.sep (drawsB hh k1 i1 a na its.toArray) (drawsB hh k2 i2 b nb jts.toArray) hz hI hO ⟨h1, p1⟩ ⟨h2, p2⟩ (Nat.le_of_eq n1) (Nat.le_of_eq n2) (.inl n1) fun h' tk hk => ⟨rfl, I.turnedL (t' := tk) (ch := [z, TI, TO, i1, i2]) (fun c o nc q => ?_) hf⟩
    simp only [List.mem_cons, List.not_mem_nil, or_false, not_or] at nc
    exact hk c o nc.1 nc.2.2.1 nc.2.2.2.1 nc.2.2.2.2 q
  self := fun A i s Q E st h => wpAny_pyIter_zip st.zip h
end
def iZipM (K : PySem.W.Frag) (ta : TA) : TI := fun σ H R => ta σ H fun vs H1 => ∃ k1 k2 a b xs ys, vs = [.ref a, .ref b] ∧ SqB k1 K H1 a xs ∧ SqB k2 K H1 b ys ∧ R (Itm k1 k2 K a b) H1
theorem pi_zipM {X : Cx} {e e2 : Expr} {ta : TA} {p pos tpos : Pos} {elts : List Expr} {kk : Nat} (hg : Gl X "zip") (hm : X.mg "zip" = none) (ha : PA X [e, e2] ta)
    (hs : starEach [e, e2] X.env = (false, eval e X.env) :: starEach [e2] X.env := by rfl) (hpl : (backTo pos (starEach [e2] X.env)).any (·.1) = false := by rfl) :
    PI X (.Tuple elts kk tpos) (.Call (.Name "zip" p) [e, e2] [] pos) (iZipM X.K ta) := ⟨fun pins s σ H R I h => by
  refine Call_ (ld_blt I hg hm boot_zip (callWith_type1 (thn (ha.run pos pins s σ H _ I h) fun us s1 ⟨vs, H1, I1, r1, q1⟩ => ?_) hs hpl))
  obtain ⟨k1, k2, a, b, xs, ys, rfl, qx, qy, q⟩ := q1
  obtain ⟨u, v, rfl, ru, rv⟩ := vals2 r1
  cases ru
  cases rv
  obtain ⟨its, _, p1, la⟩ := sqB_pl I1 qx
  obtain ⟨jts, _, p2, lb⟩ := sqB_pl I1 qy
  refine zip_begins2 (beginsB k1 a its.toArray) (beginsB k2 b jts.toArray) p1 p2 fun h' hz hI hO g1 g2 hsz hk => wpAny_pyIter_zip hz ?_
  have I2 : Inv X pins σ H1 { s1 with heap := h' } := I1.kept (t' := s1.toks) hk
  have S : Side s1.heap.objs.size a b (s1.heap.objs.size + 4) (s1.heap.objs.size + 2) (s1.heap.objs.size + 3) s1.heap.objs.size (s1.heap.objs.size + 1) := ⟨la, lb, rfl, rfl, rfl, rfl, rfl⟩
  refine ⟨s1.heap.objs.size + 4, _, _, _, H1, rfl, I2, turn_zipM S, ⟨hz, hI, ⟨_, _, hO⟩, ItB.start g1, ItB.start g2⟩, fun c hc => ?_, q⟩
  have hle : s1.heap.objs.size ≤ c := by
    rcases five hc with e | e | e | e | e <;> subst e
    · exact Nat.le_add_right _ _
    · exact Nat.le_add_right _ _
    · exact Nat.le_add_right _ _
    · exact Nat.le_refl _
    · exact Nat.le_add_right _ _
  exact I1.fpOk hle (I1.hok.fresh hle)⟩
/-- a comprehension over such a zip of one length -/
theorem made_zip {K : PySem.W.Frag} {k1 k2 : Bool} {σ : L2.St} {H : Hp} {a b : Addr} {xs ys : List V} {g : TG} {te : TE} {vs : List Nat} {Qd : Hp → Prop} {R : Nat → V → Hp → Prop} (st : Stays R) (hx : SqB k1 K H a xs) (hy : SqB k2 K H b ys) (hl : xs.length = ys.length) (hn : xs.length ≤ 1000)
    (hs : ∀ i x y T H1, xs[i]? = some x → ys[i]? = some y → Ex H H1 → H1 T = some (.tup [x, y]) → Gives g te vs σ (.ref T) H1 (R i)) {Dl : Addr} (hD : H Dl = none) (k : ∀ (H' : Hp) (ys : List V), Ex H H' → H' Dl = some (.lst ys) → ys.length = xs.length → (∀ (j : Nat) y, ys[j]? = some y → R j y H') → Qd H') :
    ∃ W : Nat → Nat → Hp → Prop, (∃ m, W 0 m (upd H Dl (.lst []))) ∧ ∀ i m H, W i m H →
      ((Itm k1 k2 K a b).stop i H ∧ Qd H) ∨ ((Itm k1 k2 K a b).go i H ∧ ∃ Nx : Hp → Prop, (∀ H', Nx H' → ∃ m', m' < m ∧ W (i + 1) m' H') ∧ ∀ x H', (Itm k1 k2 K a b).yld i H x H' → g x (wipe σ vs) H' fun σ2 H2 => wipe σ2 vs = wipe σ vs ∧ tYes σ2 H2 fun b H3 =>
        if b = true then te σ2 H3 fun y H4 => ∃ acc, H4 Dl = some (.lst acc) ∧ acc.length < sizeLine ∧ Nx (upd H4 Dl (.lst (acc ++ [y]))) else Nx H3) := by
  refine ⟨fun i m H' => i + m = xs.length ∧ Acc H R true Dl i H', ⟨xs.length, Nat.zero_add _, Acc.start hD⟩, fun i m H1 hW => ?_⟩
  obtain ⟨em, A⟩ := hW
  have qx := hx.ex A.ex
  have qy := hy.ex A.ex
  by_cases hi : i < xs.length
  · have gx : xs[i]? = some xs[i] := List.getElem?_eq_getElem hi
    have hi2 : i < ys.length := by omega
    have gy : ys[i]? = some ys[i] := List.getElem?_eq_getElem hi2
    refine .inr ⟨⟨xs, ys, _, _, qx, qy, gx, gy⟩, Acc H R true Dl (i + 1), fun H' A' => ⟨m - 1, by omega, by omega, A'⟩, fun v H' yl => ?_⟩
    obtain ⟨T, x, y, rfl, nT, rfl, fx, fy⟩ := yl
    have e1 := fx xs qx
    have e2 := fy ys qy
    have eT : Ex H1 (upd H1 T (.tup [x, y])) := exn nT
    have A2 : Acc H R true Dl i (upd H1 T (.tup [x, y])) := by
      obtain ⟨new, ex, zs, h1, h2, h3, h4, h5⟩ := A
      exact ⟨new, ex.trans eT, zs, eT _ _ h1, h2, h3, fun z hz => (h4 z hz).imp fun j q => ⟨q.1, st _ _ _ _ (ExT.of eT) q.2⟩, fun t j z hz => st _ _ _ _ (ExT.of eT) (h5 t j z hz)⟩
    exact turn_of st A2 (by omega) (hs i x y T _ e1 e2 (A.ex.trans eT) upd_same).tests fun _ => rfl
  · have ei : i = xs.length := by omega
    refine .inl ⟨⟨xs, ys, qx, qy, ei.symm, by omega⟩, ?_⟩
    subst ei
    obtain ⟨new, ex, zs, h1, h2, h3, h4, h5⟩ := A
    exact k H1 zs ex h1 (h3 rfl) (h5 rfl)
end Pre
set_option maxRecDepth 100000
/-! The mathematics of fractions: one reduced form of each quotient. -/
namespace M24
/-- the common divisor, with the sign of the bottom -/
def part (t b : Int) : Int := if b < 0 then -((Nat.gcd t.natAbs b.natAbs : Nat) : Int) else ((Nat.gcd t.natAbs b.natAbs : Nat) : Int)
/-- the quotient of two ints in lowest terms -/
def red (t b : Int) : Int × Int := (t.fdiv (part t b), b.fdiv (part t b))
/-- in lowest terms -/
structure Low (f : Int × Int) : Prop where
  pos : 0 < f.2
  one : Nat.gcd f.1.natAbs f.2.natAbs = 1

theorem gcd_pos {t b : Int} (h : b ≠ 0) : 0 < Nat.gcd t.natAbs b.natAbs := Nat.gcd_pos_of_pos_right _ (by omega)
theorem part_ne {t b : Int} (h : b ≠ 0) : part t b ≠ 0 := by
  have := gcd_pos (t := t) h
  unfold part
  split <;> omega
theorem part_abs (t b : Int) : (part t b).natAbs = Nat.gcd t.natAbs b.natAbs := by
  unfold part
  split <;> omega
theorem part_le {t b : Int} (h : b ≠ 0) : (part t b).natAbs ≤ b.natAbs := by
  rw [part_abs]
  exact Nat.le_of_dvd (by omega) (Nat.gcd_dvd_right _ _)
theorem part_dvd_t (t b : Int) : part t b ∣ t := by
  rw [← Int.natAbs_dvd_natAbs, part_abs]
  exact Nat.gcd_dvd_left _ _
theorem part_dvd_b (t b : Int) : part t b ∣ b := by
  rw [← Int.natAbs_dvd_natAbs, part_abs]
  exact Nat.gcd_dvd_right _ _
theorem fdiv_eq {a d q : Int} (h : d ≠ 0) (e : a = d * q) : a.fdiv d = q := by
  rw [e]
  exact Int.mul_fdiv_cancel_left q h
/-- what red makes: the parts of both -/
theorem red_spec {t b : Int} (h : b ≠ 0) : t = part t b * (red t b).1 ∧ b = part t b * (red t b).2 := by
  obtain ⟨x, ex⟩ := part_dvd_t t b
  obtain ⟨y, ey⟩ := part_dvd_b t b
  have hp := part_ne (t := t) h
  have e1 : (red t b).1 = x := fdiv_eq hp ex
  have e2 : (red t b).2 = y := fdiv_eq hp ey
  rw [e1, e2]
  exact ⟨ex, ey⟩
theorem red_low {t b : Int} (h : b ≠ 0) : Low (red t b) := by
  obtain ⟨e1, e2⟩ := red_spec (t := t) h
  have hp := part_ne (t := t) h
  have ha := part_abs t b
  have hg := gcd_pos (t := t) h
  generalize hx : (red t b).1 = x at e1
  generalize hy : (red t b).2 = y at e2
  have hs : b < 0 ↔ part t b < 0 := by
    unfold part
    split <;> omega
  constructor
  · rw [hy]
    rcases Int.lt_trichotomy y 0 with q | q | q
    · exfalso
      rcases Int.lt_or_gt_of_ne hp with r | r
      · have : 0 < part t b * y := Int.mul_pos_of_neg_of_neg r q
        have := hs.mpr r
        omega
      · have : part t b * y < 0 := Int.mul_neg_of_pos_of_neg r q
        have := hs.mp (by omega)
        omega
    · rw [q, Int.mul_zero] at e2
      exact absurd e2 h
    · exact q
  · rw [hx, hy]
    have f1 : t.natAbs = Nat.gcd t.natAbs b.natAbs * x.natAbs := by
      rw [← ha, ← Int.natAbs_mul, ← e1]
    have f2 : b.natAbs = Nat.gcd t.natAbs b.natAbs * y.natAbs := by
      rw [← ha, ← Int.natAbs_mul, ← e2]
    have f3 : Nat.gcd t.natAbs b.natAbs = Nat.gcd t.natAbs b.natAbs * Nat.gcd x.natAbs y.natAbs := by
      rw [← Nat.gcd_mul_left, ← f1, ← f2]
    have f4 : Nat.gcd t.natAbs b.natAbs * Nat.gcd x.natAbs y.natAbs = Nat.gcd t.natAbs b.natAbs * 1 := by omega
    exact Nat.eq_of_mul_eq_mul_left hg f4
/-- two fractions in lowest terms that are worth the same are one -/
theorem Low.eq {f g : Int × Int} (hf : Low f) (hg : Low g) (e : f.1 * g.2 = g.1 * f.2) : f = g := by
  have p1 := hf.pos
  have p2 := hg.pos
  have d1 : f.2.natAbs ∣ g.2.natAbs := by
    have : f.2.natAbs ∣ f.1.natAbs * g.2.natAbs := by
      rw [← Int.natAbs_mul, e, Int.natAbs_mul]
      exact Nat.dvd_mul_left _ _
    exact Nat.Coprime.dvd_of_dvd_mul_left (show Nat.Coprime f.2.natAbs f.1.natAbs by rw [Nat.coprime_comm]; exact hf.one) this
  have d2 : g.2.natAbs ∣ f.2.natAbs := by
    have : g.2.natAbs ∣ g.1.natAbs * f.2.natAbs := by
      rw [← Int.natAbs_mul, ← e, Int.natAbs_mul]
      exact Nat.dvd_mul_left _ _
    exact Nat.Coprime.dvd_of_dvd_mul_left (show Nat.Coprime g.2.natAbs g.1.natAbs by rw [Nat.coprime_comm]; exact hg.one) this
  have e2 : f.2 = g.2 := by
    have := Nat.dvd_antisymm d1 d2
    omega
  have e1 : f.1 = g.1 := by
    rw [e2] at e
    exact Int.eq_of_mul_eq_mul_right (by omega) e
  exact Prod.ext e1 e2
theorem red_cross {t b : Int} (h : b ≠ 0) : (red t b).1 * b = t * (red t b).2 := by
  obtain ⟨e1, e2⟩ := red_spec (t := t) h
  calc (red t b).1 * b = (red t b).1 * (part t b * (red t b).2) := by rw [← e2]
    _ = (part t b * (red t b).1) * (red t b).2 := by
      rw [← Int.mul_assoc, Int.mul_comm (red t b).1 (part t b)]
    _ = t * (red t b).2 := by rw [← e1]
/-- a fraction in lowest terms is what red makes of anything worth the same -/
theorem Low.red {f : Int × Int} (hf : Low f) {t b : Int} (h : b ≠ 0) (e : f.1 * b = t * f.2) : red t b = f := by
  refine (red_low h).eq hf ?_
  have c := red_cross (t := t) h
  have k : (M24.red t b).1 * f.2 * b = f.1 * (M24.red t b).2 * b := by
    calc (M24.red t b).1 * f.2 * b = ((M24.red t b).1 * b) * f.2 := by rw [Int.mul_right_comm]
      _ = t * (M24.red t b).2 * f.2 := by rw [c]
      _ = (t * f.2) * (M24.red t b).2 := by rw [Int.mul_right_comm]
      _ = f.1 * b * (M24.red t b).2 := by rw [e]
      _ = f.1 * (M24.red t b).2 * b := by rw [Int.mul_right_comm]
  exact Int.eq_of_mul_eq_mul_right h k
theorem red_eq {t b t' b' : Int} (h : b ≠ 0) (h' : b' ≠ 0) (e : t * b' = t' * b) : red t b = red t' b' := by
  refine (red_low h').red h ?_
  have c := red_cross (t := t') h'
  have k : (red t' b').1 * b * b' = t * (red t' b').2 * b' := by
    calc (red t' b').1 * b * b' = ((red t' b').1 * b') * b := by rw [Int.mul_right_comm]
      _ = t' * (red t' b').2 * b := by rw [c]
      _ = t' * b * (red t' b').2 := by rw [Int.mul_right_comm]
      _ = t * b' * (red t' b').2 := by rw [← e]
      _ = t * (red t' b').2 * b' := by rw [Int.mul_right_comm]
  exact Int.eq_of_mul_eq_mul_right h' k
theorem red_scale {t b c : Int} (h : b ≠ 0) (hc : c ≠ 0) : red (t * c) (b * c) = red t b :=
  red_eq (Int.mul_ne_zero h hc) h (by rw [Int.mul_assoc, Int.mul_comm c b])
theorem red_le1 {t b : Int} (h : b ≠ 0) : (red t b).1.natAbs ≤ t.natAbs := by
  obtain ⟨e1, _⟩ := red_spec (t := t) h
  have hp := part_ne (t := t) h
  have : t.natAbs = (part t b).natAbs * (red t b).1.natAbs := by rw [← Int.natAbs_mul, ← e1]
  rw [this]
  exact Nat.le_mul_of_pos_left _ (by omega)
theorem red_le2 {t b : Int} (h : b ≠ 0) : (red t b).2.natAbs ≤ b.natAbs := by
  obtain ⟨_, e2⟩ := red_spec (t := t) h
  have hp := part_ne (t := t) h
  have : b.natAbs = (part t b).natAbs * (red t b).2.natAbs := by rw [← Int.natAbs_mul, ← e2]
  rw [this]
  exact Nat.le_mul_of_pos_left _ (by omega)

/-! ### Euclid's turns -/
/-- behind i turns over (a, b), b's first size o -/
structure Turn (g o : Nat) (i : Nat) (a b : Int) : Prop where
  ha : 0 ≤ a
  hb : 0 ≤ b
  gcd : Nat.gcd a.natAbs b.natAbs = g
  lo : b.natAbs * 2 ^ (i / 2) ≤ o
  up : 1 ≤ i → b < a ∧ a.natAbs * 2 ^ ((i - 1) / 2) ≤ o
theorem Turn.start {a b : Int} (ha : 0 ≤ a) (hb : 0 ≤ b) : Turn (Nat.gcd a.natAbs b.natAbs) b.natAbs 0 a b :=
  ⟨ha, hb, rfl, by simp, fun h => absurd h (by decide)⟩
theorem Turn.next {g o i : Nat} {a b : Int} (T : Turn g o i a b) (h : b ≠ 0) : Turn g o (i + 1) b (a.fmod b) := by
  obtain ⟨ha, hb, hg, lo, up⟩ := T
  have pb : 0 < b := by omega
  have em : a.fmod b = a % b := Int.fmod_eq_emod_of_nonneg a hb
  have m0 := Int.emod_nonneg a h
  have m1 := Int.emod_lt_of_pos a pb
  have na : (a % b).natAbs = a.natAbs % b.natAbs := by
    obtain ⟨x, rfl⟩ := Int.eq_ofNat_of_zero_le ha
    obtain ⟨y, rfl⟩ := Int.eq_ofNat_of_zero_le hb
    rfl
  rw [em]
  refine ⟨hb, m0, ?_, ?_, fun _ => ⟨m1, ?_⟩⟩
  · rw [na, ← hg, Nat.gcd_comm a.natAbs b.natAbs, Nat.gcd_rec b.natAbs a.natAbs, Nat.gcd_comm]
  · by_cases hi : 1 ≤ i
    · obtain ⟨lt, u⟩ := up hi
      have e1 : (i + 1) / 2 = (i - 1) / 2 + 1 := by omega
      have e2 : 2 * (a % b).natAbs ≤ a.natAbs := by
        have d := Int.emod_def a b
        have q : 1 ≤ a / b := by
          have := Int.le_ediv_of_mul_le pb (show 1 * b ≤ a by omega)
          exact this
        have : b * 1 ≤ b * (a / b) := Int.mul_le_mul_of_nonneg_left q hb
        omega
      rw [e1, Nat.pow_succ]
      calc (a % b).natAbs * (2 ^ ((i - 1) / 2) * 2) = (2 * (a % b).natAbs) * 2 ^ ((i - 1) / 2) := by
            rw [Nat.mul_comm (2 ^ ((i - 1) / 2)) 2, ← Nat.mul_assoc, Nat.mul_comm (a % b).natAbs 2]
        _ ≤ a.natAbs * 2 ^ ((i - 1) / 2) := Nat.mul_le_mul_right _ e2
        _ ≤ o := u
    · have i0 : i = 0 := by omega
      subst i0
      simp at lo ⊢
      omega
  · have e : i + 1 - 1 = i := by omega
    rw [e]
    exact lo
theorem Turn.done {g o i B : Nat} {a b : Int} (T : Turn g o i a b) (ho : o < 2 ^ B) (hi : 2 * B ≤ i) : b = 0 := by
  by_cases h : b = 0
  · exact h
  · exfalso
    have lo := T.lo
    have p : 2 ^ B ≤ 2 ^ (i / 2) := Nat.pow_le_pow_right (by decide) (by omega)
    have q : 1 * 2 ^ (i / 2) ≤ b.natAbs * 2 ^ (i / 2) := Nat.mul_le_mul_right _ (by omega)
    omega
theorem Turn.end_ {g o i : Nat} {a b : Int} (T : Turn g o i a b) (h : b = 0) : a = (g : Int) := by
  have e := T.gcd
  rw [h] at e
  simp at e
  have := T.ha
  omega
/-- what the law's quotients are: red -/
theorem low_red {t b : Int} (h : b ≠ 0) : ((((if b < 0 then (-1 : Int) else 1) * t).fdiv ((Nat.gcd t.natAbs b.natAbs : Nat) : Int)), (((if b < 0 then (-1 : Int) else 1) * b).fdiv ((Nat.gcd t.natAbs b.natAbs : Nat) : Int))) = red t b := by
  obtain ⟨e1, e2⟩ := red_spec (t := t) h
  have hg := gcd_pos (t := t) h
  have hg' : ((Nat.gcd t.natAbs b.natAbs : Nat) : Int) ≠ 0 := by omega
  have key : (if b < 0 then (-1 : Int) else 1) * part t b = ((Nat.gcd t.natAbs b.natAbs : Nat) : Int) := by
    unfold part
    split <;> simp
  refine Prod.ext (fdiv_eq hg' ?_) (fdiv_eq hg' ?_)
  · rw [← key, Int.mul_assoc, ← e1]
  · rw [← key, Int.mul_assoc, ← e2]
/-! ### sums over a common bottom -/
def lcmStep (b c : Int) : Int := (b.fdiv ((Nat.gcd b.natAbs c.natAbs : Nat) : Int)) * c
theorem lcmStep_pos {b c : Int} (hb : 0 < b) (hc : 0 < c) : 0 < lcmStep b c := by
  unfold lcmStep
  have hg : 0 < Nat.gcd b.natAbs c.natAbs := Nat.gcd_pos_of_pos_right _ (by omega)
  obtain ⟨x, ex⟩ : ((Nat.gcd b.natAbs c.natAbs : Nat) : Int) ∣ b := by
    rw [← Int.natAbs_dvd_natAbs]
    exact Nat.gcd_dvd_left _ _
  have e : b.fdiv ((Nat.gcd b.natAbs c.natAbs : Nat) : Int) = x := fdiv_eq (by omega) ex
  rw [e]
  have hx : 0 < x := by
    rcases Int.lt_trichotomy x 0 with q | q | q
    · have := Int.mul_neg_of_pos_of_neg (show (0 : Int) < ((Nat.gcd b.natAbs c.natAbs : Nat) : Int) by omega) q
      omega
    · rw [q, Int.mul_zero] at ex
      omega
    · exact q
  exact Int.mul_pos hx hc
theorem lcmStep_dvd1 {b c : Int} : b ∣ lcmStep b c := by
  unfold lcmStep
  by_cases hg : Nat.gcd b.natAbs c.natAbs = 0
  · have := Nat.eq_zero_of_gcd_eq_zero_right hg
    have : c = 0 := by omega
    rw [this]
    simp
  · obtain ⟨x, ex⟩ : ((Nat.gcd b.natAbs c.natAbs : Nat) : Int) ∣ b := by
      rw [← Int.natAbs_dvd_natAbs]
      exact Nat.gcd_dvd_left _ _
    obtain ⟨y, ey⟩ : ((Nat.gcd b.natAbs c.natAbs : Nat) : Int) ∣ c := by
      rw [← Int.natAbs_dvd_natAbs]
      exact Nat.gcd_dvd_right _ _
    have e : b.fdiv ((Nat.gcd b.natAbs c.natAbs : Nat) : Int) = x := fdiv_eq (by omega) ex
    rw [e]
    refine ⟨y, ?_⟩
    calc x * c = x * (((Nat.gcd b.natAbs c.natAbs : Nat) : Int) * y) := by rw [← ey]
      _ = (((Nat.gcd b.natAbs c.natAbs : Nat) : Int) * x) * y := by rw [← Int.mul_assoc, Int.mul_comm x]
      _ = b * y := by rw [← ex]
theorem lcmStep_dvd2 {b c : Int} : c ∣ lcmStep b c := ⟨_, Int.mul_comm _ _⟩
theorem lcmStep_le {b c : Int} (hb : 0 < b) (hc : 0 < c) : lcmStep b c ≤ b * c := by
  unfold lcmStep
  have hg : 0 < Nat.gcd b.natAbs c.natAbs := Nat.gcd_pos_of_pos_right _ (by omega)
  obtain ⟨x, ex⟩ : ((Nat.gcd b.natAbs c.natAbs : Nat) : Int) ∣ b := by
    rw [← Int.natAbs_dvd_natAbs]
    exact Nat.gcd_dvd_left _ _
  have e : b.fdiv ((Nat.gcd b.natAbs c.natAbs : Nat) : Int) = x := fdiv_eq (by omega) ex
  rw [e]
  refine Int.mul_le_mul_of_nonneg_right ?_ (by omega)
  have : 1 * x ≤ ((Nat.gcd b.natAbs c.natAbs : Nat) : Int) * x := by
    by_cases hx : 0 ≤ x
    · exact Int.mul_le_mul_of_nonneg_right (by omega) hx
    · have := Int.mul_neg_of_pos_of_neg (show (0 : Int) < ((Nat.gcd b.natAbs c.natAbs : Nat) : Int) by omega) (show x < 0 by omega)
      omega
  omega
/-- the law's way: the bottom times the rest of the other one -/
theorem lcmStep_law {b c : Int} (hb : 0 < b) (hc : 0 < c) : b * (red c b).1 = lcmStep b c := by
  have h : b ≠ 0 := by omega
  obtain ⟨e1, e2⟩ := red_spec (t := c) h
  have hp : part c b = ((Nat.gcd b.natAbs c.natAbs : Nat) : Int) := by
    unfold part
    rw [if_neg (by omega), Nat.gcd_comm]
  have hne := part_ne (t := c) h
  unfold lcmStep
  rw [← hp]
  have f : b.fdiv (part c b) = (red c b).2 := rfl
  rw [f]
  calc b * (red c b).1 = (part c b * (red c b).2) * (red c b).1 := by rw [← e2]
    _ = (red c b).2 * (part c b * (red c b).1) := by rw [Int.mul_comm (part c b) (red c b).2, Int.mul_assoc]
    _ = (red c b).2 * c := by rw [← e1]
/-- the least number that makes all whole -/
def lcms : List (Int × Int) → Int := fun fs => fs.foldl (fun b f => lcmStep b f.2) 1
theorem foldl_pos : ∀ (fs : List (Int × Int)) (b : Int), 0 < b → (∀ f, f ∈ fs → 0 < f.2) → 0 < fs.foldl (fun b f => lcmStep b f.2) b
  | [], _, h, _ => h
  | f :: fs, b, h, hf => foldl_pos fs _ (lcmStep_pos h (hf f (List.mem_cons_self ..))) fun g hg => hf g (List.mem_cons_of_mem _ hg)
theorem foldl_dvd : ∀ (fs : List (Int × Int)) (b : Int), b ∣ fs.foldl (fun b f => lcmStep b f.2) b
  | [], b => Int.dvd_refl b
  | f :: fs, b => Int.dvd_trans (lcmStep_dvd1 (b := b) (c := f.2)) (foldl_dvd fs _)
theorem foldl_all : ∀ (fs : List (Int × Int)) (b : Int) (f : Int × Int), f ∈ fs → f.2 ∣ fs.foldl (fun b f => lcmStep b f.2) b
  | g :: fs, b, f, h => by
    rcases List.mem_cons.mp h with q | q
    · rw [q]
      exact Int.dvd_trans (lcmStep_dvd2 (b := b) (c := g.2)) (foldl_dvd fs _)
    · exact foldl_all fs _ f q
theorem lcms_pos {fs : List (Int × Int)} (h : ∀ f, f ∈ fs → 0 < f.2) : 0 < lcms fs := foldl_pos fs 1 (by decide) h
theorem lcms_all {fs : List (Int × Int)} {f : Int × Int} (h : f ∈ fs) : f.2 ∣ lcms fs := foldl_all fs 1 f h
/-- one more fraction -/
theorem lcms_take {fs : List (Int × Int)} {i : Nat} {f : Int × Int} (h : fs[i]? = some f) : lcms (fs.take (i + 1)) = lcmStep (lcms (fs.take i)) f.2 := by
  unfold lcms
  rw [List.take_add_one, h]
  simp
/-- a fraction's top over the common bottom -/
def tops (fs : List (Int × Int)) (B : Int) : List Int := fs.map fun f => f.1 * B.fdiv f.2
/-- what the law adds up: a top over the product of the bottoms -/
def addUp (B : Int) : List (Int × Int) → List Int → Int
  | f :: fs, n :: ns => (f.1 * B.fdiv f.2) * n + addUp B fs ns
  | _, _ => 0
theorem dvd_fdiv {b B : Int} (hb : 0 < b) (h : b ∣ B) : b * B.fdiv b = B := by
  obtain ⟨x, ex⟩ := h
  rw [fdiv_eq (by omega) ex, ← ex]
/-- one turn of the law's sum: total and under stand for the same worth as the sum over B -/
theorem turn_sum {t b n B S total under : Int} (hb : 0 < b) (h : b ∣ B) (e : total * B = S * under) : (total * b + t * n * under) * B = (S + t * B.fdiv b * n) * (under * b) := by
  have f := dvd_fdiv hb h
  generalize B.fdiv b = y at f ⊢
  have e1 : (total * b + t * n * under) * B = total * B * b + t * n * under * B := by
    rw [Int.add_mul, Int.mul_right_comm total b B]
  have e2 : (S + t * y * n) * (under * b) = S * under * b + t * y * n * (under * b) := by
    rw [Int.add_mul, Int.mul_assoc S]
  have e3 : t * n * under * B = t * y * n * (under * b) := by
    rw [← f]
    have a1 : t * n * under * (b * y) = t * (n * (under * (b * y))) := by
      rw [Int.mul_assoc, Int.mul_assoc]
    have a2 : t * y * n * (under * b) = t * (y * (n * (under * b))) := by
      rw [Int.mul_assoc, Int.mul_assoc]
    rw [a1, a2]
    have a3 : n * (under * (b * y)) = y * (n * (under * b)) := by
      rw [← Int.mul_assoc under b y, ← Int.mul_assoc n, Int.mul_comm y]
    rw [a3]
  rw [e1, e2, e3, e]

/-! ### a fraction taken apart -/
/-- a fraction above 1 in lowest terms: a tail -/
structure Tail (f : Int × Int) : Prop extends Low f where
  gt : f.2 < f.1
theorem Tail.first {n : Int} (h : 1 < n) : Tail (n, 1) := ⟨⟨by show (0 : Int) < 1; decide, by simp⟩, h⟩
/-- a whole part ahead of a tail -/
theorem low_next {f : Int × Int} (h : Tail f) (q : Int) : Low (q * f.1 + f.2, f.1) := by
  have hp := h.pos
  have hg := h.gt
  refine ⟨by show 0 < f.1; omega, ?_⟩
  show Nat.gcd (q * f.1 + f.2).natAbs f.1.natAbs = 1
  have e : (Int.gcd (q * f.1 + f.2) f.1 : Nat) = Int.gcd f.2 f.1 := by
    rw [Int.add_comm, Int.gcd_add_mul_right_left]
  have o := h.one
  show Int.gcd (q * f.1 + f.2) f.1 = 1
  rw [e]
  show Nat.gcd f.2.natAbs f.1.natAbs = 1
  rw [Nat.gcd_comm]
  exact o
theorem Tail.next {f : Int × Int} (h : Tail f) {q : Int} (hq : 1 ≤ q) : Tail (q * f.1 + f.2, f.1) := by
  have hp := h.pos
  have hg := h.gt
  refine ⟨low_next h q, ?_⟩
  show f.1 < q * f.1 + f.2
  have : 1 * f.1 ≤ q * f.1 := Int.mul_le_mul_of_nonneg_right hq (by omega)
  omega
theorem floor_next {f : Int × Int} (h : Tail f) (q : Int) : (q * f.1 + f.2).fdiv f.1 = q := by
  have hp := h.pos
  have hg := h.gt
  rw [Int.fdiv_eq_ediv_of_nonneg _ (by omega), Int.add_comm, Int.add_mul_ediv_right _ _ (by omega), Int.ediv_eq_zero_of_lt (by omega) hg]
  omega
theorem rest_next {f : Int × Int} (h : Tail f) (q : Int) : red ((q * f.1 + f.2) * (red q 1).2 - (red q 1).1 * f.1) (f.1 * (red q 1).2) = (f.2, f.1) := by
  have hp := h.pos
  have hg := h.gt
  have e1 : red q 1 = (q, 1) := Low.red (f := (q, 1)) ⟨by show (0 : Int) < 1; decide, by simp⟩ (by decide) (by simp)
  rw [e1]
  show red ((q * f.1 + f.2) * 1 - q * f.1) (f.1 * 1) = _
  have l : Low (f.2, f.1) := ⟨by show 0 < f.1; omega, by show Nat.gcd f.2.natAbs f.1.natAbs = 1; rw [Nat.gcd_comm]; exact h.one⟩
  refine l.red (by omega) ?_
  show f.2 * (f.1 * 1) = ((q * f.1 + f.2) * 1 - q * f.1) * f.1
  have : (q * f.1 + f.2) * 1 - q * f.1 = f.2 := by omega
  rw [this, Int.mul_one]
theorem turn_over {f : Int × Int} (h : Tail f) : red (1 * f.1) (1 * f.2) = f := by
  have hp := h.pos
  refine h.toLow.red (by omega) ?_
  rw [Int.one_mul, Int.one_mul, Int.mul_comm]

/-! ### sums of one over k and k + 1, products of their quotients -/
theorem step_sum {f m : Int} (hf : 1 ≤ f) (hm : 0 ≤ m) : red ((red m (f * (f + m))).1 * ((f + m) * (f + m + 1)) + 1 * (red m (f * (f + m))).2) ((red m (f * (f + m))).2 * ((f + m) * (f + m + 1))) = red (m + 1) (f * (f + m + 1)) := by
  have h0 : f * (f + m) ≠ 0 := by
    have := Int.mul_pos (show 0 < f by omega) (show 0 < f + m by omega)
    omega
  have h1 : f * (f + m + 1) ≠ 0 := by
    have := Int.mul_pos (show 0 < f by omega) (show 0 < f + m + 1 by omega)
    omega
  have hc := red_cross (t := m) h0
  have hp := (red_low (t := m) h0).pos
  generalize red m (f * (f + m)) = r at hc hp ⊢
  obtain ⟨x, y⟩ := r
  have hc : x * (f * (f + m)) = m * y := hc
  have hp : 0 < y := hp
  show red (x * ((f + m) * (f + m + 1)) + 1 * y) (y * ((f + m) * (f + m + 1))) = _
  have h2 : y * ((f + m) * (f + m + 1)) ≠ 0 := by
    have := Int.mul_pos hp (Int.mul_pos (show 0 < f + m by omega) (show 0 < f + m + 1 by omega))
    omega
  refine red_eq h2 h1 ?_
  have g : x * ((f + m) * (f + m + 1)) * f = m * y * (f + m + 1) := by
    calc x * ((f + m) * (f + m + 1)) * f = x * (f * (f + m)) * (f + m + 1) := by
          simp only [Int.mul_assoc, Int.mul_comm, Int.mul_left_comm]
      _ = m * y * (f + m + 1) := by rw [hc]
  calc (x * ((f + m) * (f + m + 1)) + 1 * y) * (f * (f + m + 1)) = (x * ((f + m) * (f + m + 1)) * f + y * f) * (f + m + 1) := by
        rw [Int.one_mul, ← Int.mul_assoc, Int.add_mul]
    _ = (m * y * (f + m + 1) + y * f) * (f + m + 1) := by rw [g]
    _ = (m + 1) * (y * ((f + m) * (f + m + 1))) := by
      have a : m * y * (f + m + 1) + y * f = (m + 1) * (y * (f + m)) := by
        simp only [Int.mul_add, Int.add_mul, Int.mul_one, Int.one_mul, Int.mul_assoc, Int.mul_comm, Int.mul_left_comm]
        omega
      rw [a]
      simp only [Int.mul_assoc]
theorem step_product {f m : Int} (hf : 1 ≤ f) (hm : 0 ≤ m) : red ((f + m + 1) * (red (f + m) f).1) ((f + m) * (red (f + m) f).2) = red (f + m + 1) f := by
  have h0 : f ≠ 0 := by omega
  have hc := red_cross (t := f + m) h0
  have hp := (red_low (t := f + m) h0).pos
  generalize red (f + m) f = r at hc hp ⊢
  obtain ⟨x, y⟩ := r
  have hc : x * f = (f + m) * y := hc
  have hp : 0 < y := hp
  show red ((f + m + 1) * x) ((f + m) * y) = _
  have h2 : (f + m) * y ≠ 0 := by
    have := Int.mul_pos (show 0 < f + m by omega) hp
    omega
  refine red_eq h2 h0 ?_
  rw [Int.mul_assoc, hc]
/-! ### tails, one behind another: rs 0 is the last quotient -/
def tl (rs : Nat → Int) : Nat → Int × Int
  | 0 => (rs 0, 1)
  | j + 1 => (rs (j + 1) * (tl rs j).1 + (tl rs j).2, (tl rs j).1)
theorem tl_tail {rs : Nat → Int} {m : Nat} (h0 : 1 < m → 2 ≤ rs 0) (h1 : ∀ j, 1 ≤ j → j + 1 < m → 1 ≤ rs j) : ∀ j, j + 1 < m → Tail (tl rs j)
  | 0, h => Tail.first (by have := h0 h; omega)
  | j + 1, h => (tl_tail h0 h1 j (by omega)).next (h1 (j + 1) (by omega) h)
theorem tl_low {rs : Nat → Int} {m : Nat} (h0 : 1 < m → 2 ≤ rs 0) (h1 : ∀ j, 1 ≤ j → j + 1 < m → 1 ≤ rs j) : ∀ j, j < m → Low (tl rs j)
  | 0, _ => ⟨by show (0 : Int) < 1; decide, by show Nat.gcd (rs 0).natAbs 1 = 1; simp⟩
  | j + 1, h => low_next (tl_tail h0 h1 j h) (rs (j + 1))
theorem tl_floor {rs : Nat → Int} {m : Nat} (h0 : 1 < m → 2 ≤ rs 0) (h1 : ∀ j, 1 ≤ j → j + 1 < m → 1 ≤ rs j) : ∀ j, j < m → (tl rs j).1.fdiv (tl rs j).2 = rs j
  | 0, _ => by
    show (rs 0).fdiv 1 = rs 0
    exact Int.fdiv_one _
  | j + 1, h => floor_next (tl_tail h0 h1 j h) (rs (j + 1))
theorem red_whole (q : Int) : red q 1 = (q, 1) := Low.red (f := (q, 1)) ⟨by show (0 : Int) < 1; decide, by simp⟩ (by decide) (by simp)
theorem tl_rest0 (rs : Nat → Int) : red ((tl rs 0).1 * (red (rs 0) 1).2 - (red (rs 0) 1).1 * (tl rs 0).2) ((tl rs 0).2 * (red (rs 0) 1).2) = (0, 1) := by
  rw [red_whole]
  show red (rs 0 * 1 - rs 0 * 1) (1 * 1) = (0, 1)
  rw [Int.sub_self]
  exact Low.red (f := (0, 1)) ⟨by show (0 : Int) < 1; decide, by simp⟩ (by decide) (by simp)
theorem tl_rest {rs : Nat → Int} {m : Nat} (h0 : 1 < m → 2 ≤ rs 0) (h1 : ∀ j, 1 ≤ j → j + 1 < m → 1 ≤ rs j) (j : Nat) (h : j + 1 < m) :
    red ((tl rs (j + 1)).1 * (red (rs (j + 1)) 1).2 - (red (rs (j + 1)) 1).1 * (tl rs (j + 1)).2) ((tl rs (j + 1)).2 * (red (rs (j + 1)) 1).2) = ((tl rs j).2, (tl rs j).1) := rest_next (tl_tail h0 h1 j h) (rs (j + 1))
theorem tl_scale {rs : Nat → Int} {m : Nat} (h0 : 1 < m → 2 ≤ rs 0) (h1 : ∀ j, 1 ≤ j → j + 1 < m → 1 ≤ rs j) {j : Nat} (h : j < m) {c : Int} (hc : c ≠ 0) : red ((tl rs j).1 * c) ((tl rs j).2 * c) = tl rs j := by
  have l := tl_low h0 h1 j h
  have hp := l.pos
  have hb : (tl rs j).2 ≠ 0 := by omega
  rw [red_scale hb hc]
  exact l.red hb rfl
end M24
set_option maxRecDepth 100000
set_option maxHeartbeats 4000000
namespace K24
open PySem PySem.Spec PyProof.Rows L2 M24 Pre
def topS (i : Nat) : Stmt := PySem.Challenge.pw_caseshome_k24_whole_fractions.main.body.getD i (.Pass ⟨0, 0, 0, 0⟩)
abbrev s_fraction : Stmt := topS 2
abbrev s_added : Stmt := topS 3
abbrev s_less : Stmt := topS 4
abbrev s_multiplied : Stmt := topS 5
abbrev s_divided : Stmt := topS 6
abbrev s_compared : Stmt := topS 7
abbrev s_worth : Stmt := topS 8
abbrev s_is_whole : Stmt := topS 9
abbrev s_floor_of : Stmt := topS 10
abbrev s_bottom_of : Stmt := topS 11
abbrev s_whole_times : Stmt := topS 12
abbrev s_law_source : Stmt := topS 14
abbrev s_law_any : Stmt := topS 15
abbrev s_law_of : Stmt := topS 16
abbrev s_law_big : Stmt := topS 17
abbrev s_law_signed : Stmt := topS 18
abbrev s_law_low : Stmt := topS 19
abbrev s_law_pair : Stmt := topS 20
abbrev s_law_is : Stmt := topS 21
abbrev s_law_number_is : Stmt := topS 22
abbrev s_law_flag_is : Stmt := topS 23
abbrev s_law_two : Stmt := topS 24
abbrev s_law_quotient : Stmt := topS 25
abbrev s_law_rows : Stmt := topS 26
abbrev s_law_apart : Stmt := topS 27
abbrev s_law_steps : Stmt := topS 28
abbrev s_law : Stmt := topS 29
theorem sc_fraction : FnScope ["top", "bottom", "part"] ["top", "bottom"] (defScope s_fraction) := ⟨rfl, rfl, rfl, by decide +kernel, rfl, by decide +kernel, by decide +kernel⟩
theorem sc_added : FnScope ["one", "other"] ["one", "other"] (defScope s_added) := ⟨rfl, rfl, rfl, by decide +kernel, rfl, by decide +kernel, by decide +kernel⟩
theorem sc_less : FnScope ["one", "other"] ["one", "other"] (defScope s_less) := ⟨rfl, rfl, rfl, by decide +kernel, rfl, by decide +kernel, by decide +kernel⟩
theorem sc_multiplied : FnScope ["one", "other"] ["one", "other"] (defScope s_multiplied) := ⟨rfl, rfl, rfl, by decide +kernel, rfl, by decide +kernel, by decide +kernel⟩
theorem sc_divided : FnScope ["one", "other"] ["one", "other"] (defScope s_divided) := ⟨rfl, rfl, rfl, by decide +kernel, rfl, by decide +kernel, by decide +kernel⟩
theorem sc_compared : FnScope ["one", "other", "here", "there"] ["one", "other"] (defScope s_compared) := ⟨rfl, rfl, rfl, by decide +kernel, rfl, by decide +kernel, by decide +kernel⟩
theorem sc_worth : FnScope ["fractions", "numbers", "bottom", "tops", "top", "number"] ["fractions", "numbers"] (defScope s_worth) := ⟨rfl, rfl, rfl, by decide +kernel, rfl, by decide +kernel, by decide +kernel⟩
theorem sc_is_whole : FnScope ["one"] ["one"] (defScope s_is_whole) := ⟨rfl, rfl, rfl, by decide +kernel, rfl, by decide +kernel, by decide +kernel⟩
theorem sc_floor_of : FnScope ["one"] ["one"] (defScope s_floor_of) := ⟨rfl, rfl, rfl, by decide +kernel, rfl, by decide +kernel, by decide +kernel⟩
theorem sc_bottom_of : FnScope ["fractions", "bottom", "one"] ["fractions"] (defScope s_bottom_of) := ⟨rfl, rfl, rfl, by decide +kernel, rfl, by decide +kernel, by decide +kernel⟩
theorem sc_whole_times : FnScope ["fractions", "number", "top", "bottom"] ["fractions", "number"] (defScope s_whole_times) := ⟨rfl, rfl, rfl, by decide +kernel, rfl, by decide +kernel, by decide +kernel⟩
theorem sc_law_source : FnScope ["script", "salt", "cell", "numbers", "blend"] ["script", "salt"] (defScope s_law_source) := ⟨rfl, rfl, rfl, by decide +kernel, rfl, by decide +kernel, by decide +kernel⟩
theorem sc_law_any : FnScope ["draws", "bound", "rest"] ["draws", "bound"] (defScope s_law_any) := ⟨rfl, rfl, rfl, by decide +kernel, rfl, by decide +kernel, by decide +kernel⟩
theorem sc_law_of : FnScope ["draws", "some"] ["draws", "some"] (defScope s_law_of) := ⟨rfl, rfl, rfl, by decide +kernel, rfl, by decide +kernel, by decide +kernel⟩
theorem sc_law_big : FnScope ["draws", "total", "turn"] ["draws"] (defScope s_law_big) := ⟨rfl, rfl, rfl, by decide +kernel, rfl, by decide +kernel, by decide +kernel⟩
theorem sc_law_signed : FnScope ["draws", "number"] ["draws"] (defScope s_law_signed) := ⟨rfl, rfl, rfl, by decide +kernel, rfl, by decide +kernel, by decide +kernel⟩
theorem sc_law_low : FnScope ["top", "bottom", "one", "other", "turn", "sign"] ["top", "bottom"] (defScope s_law_low) := ⟨rfl, rfl, rfl, by decide +kernel, rfl, by decide +kernel, by decide +kernel⟩
theorem sc_law_pair : FnScope ["draws", "form", "one", "many"] ["draws"] (defScope s_law_pair) := ⟨rfl, rfl, rfl, by decide +kernel, rfl, by decide +kernel, by decide +kernel⟩
theorem sc_law_is : FnScope ["told", "due"] ["told", "due"] (defScope s_law_is) := ⟨rfl, rfl, rfl, by decide +kernel, rfl, by decide +kernel, by decide +kernel⟩
theorem sc_law_number_is : FnScope ["told", "due"] ["told", "due"] (defScope s_law_number_is) := ⟨rfl, rfl, rfl, by decide +kernel, rfl, by decide +kernel, by decide +kernel⟩
theorem sc_law_flag_is : FnScope ["told", "due"] ["told", "due"] (defScope s_law_flag_is) := ⟨rfl, rfl, rfl, by decide +kernel, rfl, by decide +kernel, by decide +kernel⟩
theorem sc_law_two : FnScope ["draws", "one", "other", "gap", "rank", "dues", "tolds", "some", "at"] ["draws"] (defScope s_law_two) := ⟨rfl, rfl, rfl, by decide +kernel, rfl, by decide +kernel, by decide +kernel⟩
theorem sc_law_quotient : FnScope ["draws", "common", "top", "bottom", "due", "told"] ["draws"] (defScope s_law_quotient) := ⟨rfl, rfl, rfl, by decide +kernel, rfl, by decide +kernel, by decide +kernel⟩
theorem sc_law_rows : FnScope ["draws", "many", "most", "at", "some", "numbers", "total", "under", "bottom", "due", "handed", "beside"] ["draws"] (defScope s_law_rows) := ⟨rfl, rfl, rfl, by decide +kernel, rfl, by decide +kernel, by decide +kernel⟩
theorem sc_law_apart : FnScope ["draws", "great", "many", "at", "parts", "part", "tails", "common", "value", "rest"] ["draws"] (defScope s_law_apart) := ⟨rfl, rfl, rfl, by decide +kernel, rfl, by decide +kernel, by decide +kernel⟩
theorem sc_law_steps : FnScope ["draws", "first", "many", "total", "product", "at"] ["draws"] (defScope s_law_steps) := ⟨rfl, rfl, rfl, by decide +kernel, rfl, by decide +kernel, by decide +kernel⟩
theorem sc_law : FnScope ["script", "draws", "turn"] ["script"] (defScope s_law) := ⟨rfl, rfl, rfl, by decide +kernel, rfl, by decide +kernel, by decide +kernel⟩
structure Tx (K : PySem.W.Frag) (mg : Str → Option Value) where
  fraction : Addr
  fraction_fd : FuncData
  fraction_F : Fun K "fraction" "fraction" s_fraction fraction fraction_fd
  fraction_m : mg "fraction" = some (.ref fraction)
  fraction_b : Binds K fraction_fd ["top", "bottom"] []
  added : Addr
  added_fd : FuncData
  added_F : Fun K "added" "added" s_added added added_fd
  added_m : mg "added" = some (.ref added)
  added_b : Binds K added_fd ["one", "other"] []
  less : Addr
  less_fd : FuncData
  less_F : Fun K "less" "less" s_less less less_fd
  less_m : mg "less" = some (.ref less)
  less_b : Binds K less_fd ["one", "other"] []
  multiplied : Addr
  multiplied_fd : FuncData
  multiplied_F : Fun K "multiplied" "multiplied" s_multiplied multiplied multiplied_fd
  multiplied_m : mg "multiplied" = some (.ref multiplied)
  multiplied_b : Binds K multiplied_fd ["one", "other"] []
  divided : Addr
  divided_fd : FuncData
  divided_F : Fun K "divided" "divided" s_divided divided divided_fd
  divided_m : mg "divided" = some (.ref divided)
  divided_b : Binds K divided_fd ["one", "other"] []
  compared : Addr
  compared_fd : FuncData
  compared_F : Fun K "compared" "compared" s_compared compared compared_fd
  compared_m : mg "compared" = some (.ref compared)
  compared_b : Binds K compared_fd ["one", "other"] []
  worth : Addr
  worth_fd : FuncData
  worth_F : Fun K "worth" "worth" s_worth worth worth_fd
  worth_m : mg "worth" = some (.ref worth)
  worth_b : Binds K worth_fd ["fractions", "numbers"] []
  is_whole : Addr
  is_whole_fd : FuncData
  is_whole_F : Fun K "is_whole" "is_whole" s_is_whole is_whole is_whole_fd
  is_whole_m : mg "is_whole" = some (.ref is_whole)
  is_whole_b : Binds K is_whole_fd ["one"] []
  floor_of : Addr
  floor_of_fd : FuncData
  floor_of_F : Fun K "floor_of" "floor_of" s_floor_of floor_of floor_of_fd
  floor_of_m : mg "floor_of" = some (.ref floor_of)
  floor_of_b : Binds K floor_of_fd ["one"] []
  bottom_of : Addr
  bottom_of_fd : FuncData
  bottom_of_F : Fun K "bottom_of" "bottom_of" s_bottom_of bottom_of bottom_of_fd
  bottom_of_m : mg "bottom_of" = some (.ref bottom_of)
  bottom_of_b : Binds K bottom_of_fd ["fractions"] []
  whole_times : Addr
  whole_times_fd : FuncData
  whole_times_F : Fun K "whole_times" "whole_times" s_whole_times whole_times whole_times_fd
  whole_times_m : mg "whole_times" = some (.ref whole_times)
  whole_times_b : Binds K whole_times_fd ["fractions", "number"] []
  law_source : Addr
  law_source_fd : FuncData
  law_source_F : Fun K "_law_source" "_law_source" s_law_source law_source law_source_fd
  law_source_m : mg "_law_source" = some (.ref law_source)
  law_source_b : Binds K law_source_fd ["script", "salt"] []
  law_any : Addr
  law_any_fd : FuncData
  law_any_F : Fun K "_law_any" "_law_any" s_law_any law_any law_any_fd
  law_any_m : mg "_law_any" = some (.ref law_any)
  law_any_b : Binds K law_any_fd ["draws", "bound"] []
  law_of : Addr
  law_of_fd : FuncData
  law_of_F : Fun K "_law_of" "_law_of" s_law_of law_of law_of_fd
  law_of_m : mg "_law_of" = some (.ref law_of)
  law_of_b : Binds K law_of_fd ["draws", "some"] []
  law_big : Addr
  law_big_fd : FuncData
  law_big_F : Fun K "_law_big" "_law_big" s_law_big law_big law_big_fd
  law_big_m : mg "_law_big" = some (.ref law_big)
  law_big_b : Binds K law_big_fd ["draws"] []
  law_signed : Addr
  law_signed_fd : FuncData
  law_signed_F : Fun K "_law_signed" "_law_signed" s_law_signed law_signed law_signed_fd
  law_signed_m : mg "_law_signed" = some (.ref law_signed)
  law_signed_b : Binds K law_signed_fd ["draws"] []
  law_low : Addr
  law_low_fd : FuncData
  law_low_F : Fun K "_law_low" "_law_low" s_law_low law_low law_low_fd
  law_low_m : mg "_law_low" = some (.ref law_low)
  law_low_b : Binds K law_low_fd ["top", "bottom"] []
  law_pair : Addr
  law_pair_fd : FuncData
  law_pair_F : Fun K "_law_pair" "_law_pair" s_law_pair law_pair law_pair_fd
  law_pair_m : mg "_law_pair" = some (.ref law_pair)
  law_pair_b : Binds K law_pair_fd ["draws"] []
  law_is : Addr
  law_is_fd : FuncData
  law_is_F : Fun K "_law_is" "_law_is" s_law_is law_is law_is_fd
  law_is_m : mg "_law_is" = some (.ref law_is)
  law_is_b : Binds K law_is_fd ["told", "due"] []
  law_number_is : Addr
  law_number_is_fd : FuncData
  law_number_is_F : Fun K "_law_number_is" "_law_number_is" s_law_number_is law_number_is law_number_is_fd
  law_number_is_m : mg "_law_number_is" = some (.ref law_number_is)
  law_number_is_b : Binds K law_number_is_fd ["told", "due"] []
  law_flag_is : Addr
  law_flag_is_fd : FuncData
  law_flag_is_F : Fun K "_law_flag_is" "_law_flag_is" s_law_flag_is law_flag_is law_flag_is_fd
  law_flag_is_m : mg "_law_flag_is" = some (.ref law_flag_is)
  law_flag_is_b : Binds K law_flag_is_fd ["told", "due"] []
  law_two : Addr
  law_two_fd : FuncData
  law_two_F : Fun K "_law_two" "_law_two" s_law_two law_two law_two_fd
  law_two_m : mg "_law_two" = some (.ref law_two)
  law_two_b : Binds K law_two_fd ["draws"] []
  law_quotient : Addr
  law_quotient_fd : FuncData
  law_quotient_F : Fun K "_law_quotient" "_law_quotient" s_law_quotient law_quotient law_quotient_fd
  law_quotient_m : mg "_law_quotient" = some (.ref law_quotient)
  law_quotient_b : Binds K law_quotient_fd ["draws"] []
  law_rows : Addr
  law_rows_fd : FuncData
  law_rows_F : Fun K "_law_rows" "_law_rows" s_law_rows law_rows law_rows_fd
  law_rows_m : mg "_law_rows" = some (.ref law_rows)
  law_rows_b : Binds K law_rows_fd ["draws"] []
  law_apart : Addr
  law_apart_fd : FuncData
  law_apart_F : Fun K "_law_apart" "_law_apart" s_law_apart law_apart law_apart_fd
  law_apart_m : mg "_law_apart" = some (.ref law_apart)
  law_apart_b : Binds K law_apart_fd ["draws"] []
  law_steps : Addr
  law_steps_fd : FuncData
  law_steps_F : Fun K "_law_steps" "_law_steps" s_law_steps law_steps law_steps_fd
  law_steps_m : mg "_law_steps" = some (.ref law_steps)
  law_steps_b : Binds K law_steps_fd ["draws"] []
  law : Addr
  law_fd : FuncData
  law_F : Fun K "law" "law" s_law law law_fd
  law_m : mg "law" = some (.ref law)
  law_b : Binds K law_fd ["script"] []
  z_abs : mg "abs" = none
  z_bool : mg "bool" = none
  z_int : mg "int" = none
  z_isinstance : mg "isinstance" = none
  z_len : mg "len" = none
  z_list : mg "list" = none
  z_range : mg "range" = none
  z_sum : mg "sum" = none
  z_tuple : mg "tuple" = none
  z_zip : mg "zip" = none
  l_gcd : mg "gcd" = some (.builtin "math.gcd")
def kp_added_other_one {α : Type} : List α → List α → List α
  | _, [a0, a1] => [a1, a0]
  | _, _ => []
theorem kb_added_other_one {K : PySem.W.Frag} {f : Addr} {fd : FuncData} (F : Fun K "added" "added" s_added f fd) : KBn K fd ["one", "other"] 0 ["other", "one"] kp_added_other_one kp_added_other_one := by
  obtain ⟨oc, od, kV, doc, pm, an, cdv, ct, osl, rfl, lk, hcd⟩ := F.ex
  refine ⟨fun s us ws _ h1 h2 => ?_, fun {vs us zs ws} r1 r2 => ?_⟩
  · match us, ws, h1, h2 with
    | [], [a0, a1], _, _ => exact .of_eq rfl
  · match r2 with
    | .nil => exact .nil
    | .cons _ (.nil) => exact .nil
    | .cons q0 (.cons q1 (.nil)) => exact .cons q1 (.cons q0 (.nil))
    | .cons _ (.cons _ (.cons _ _)) => exact .nil
def kp_bottom_of_fractions {α : Type} : List α → List α → List α
  | _, [a0] => [a0]
  | _, _ => []
theorem kb_bottom_of_fractions {K : PySem.W.Frag} {f : Addr} {fd : FuncData} (F : Fun K "bottom_of" "bottom_of" s_bottom_of f fd) : KBn K fd ["fractions"] 0 ["fractions"] kp_bottom_of_fractions kp_bottom_of_fractions := by
  obtain ⟨oc, od, kV, doc, pm, an, cdv, ct, osl, rfl, lk, hcd⟩ := F.ex
  refine ⟨fun s us ws _ h1 h2 => ?_, fun {vs us zs ws} r1 r2 => ?_⟩
  · match us, ws, h1, h2 with
    | [], [a0], _, _ => exact .of_eq rfl
  · match r2 with
    | .nil => exact .nil
    | .cons q0 (.nil) => exact .cons q0 (.nil)
    | .cons _ (.cons _ _) => exact .nil
def kp_compared_other_one {α : Type} : List α → List α → List α
  | _, [a0, a1] => [a1, a0]
  | _, _ => []
theorem kb_compared_other_one {K : PySem.W.Frag} {f : Addr} {fd : FuncData} (F : Fun K "compared" "compared" s_compared f fd) : KBn K fd ["one", "other"] 0 ["other", "one"] kp_compared_other_one kp_compared_other_one := by
  obtain ⟨oc, od, kV, doc, pm, an, cdv, ct, osl, rfl, lk, hcd⟩ := F.ex
  refine ⟨fun s us ws _ h1 h2 => ?_, fun {vs us zs ws} r1 r2 => ?_⟩
  · match us, ws, h1, h2 with
    | [], [a0, a1], _, _ => exact .of_eq rfl
  · match r2 with
    | .nil => exact .nil
    | .cons _ (.nil) => exact .nil
    | .cons q0 (.cons q1 (.nil)) => exact .cons q1 (.cons q0 (.nil))
    | .cons _ (.cons _ (.cons _ _)) => exact .nil
def kp_divided_other_one {α : Type} : List α → List α → List α
  | _, [a0, a1] => [a1, a0]
  | _, _ => []
theorem kb_divided_other_one {K : PySem.W.Frag} {f : Addr} {fd : FuncData} (F : Fun K "divided" "divided" s_divided f fd) : KBn K fd ["one", "other"] 0 ["other", "one"] kp_divided_other_one kp_divided_other_one := by
  obtain ⟨oc, od, kV, doc, pm, an, cdv, ct, osl, rfl, lk, hcd⟩ := F.ex
  refine ⟨fun s us ws _ h1 h2 => ?_, fun {vs us zs ws} r1 r2 => ?_⟩
  · match us, ws, h1, h2 with
    | [], [a0, a1], _, _ => exact .of_eq rfl
  · match r2 with
    | .nil => exact .nil
    | .cons _ (.nil) => exact .nil
    | .cons q0 (.cons q1 (.nil)) => exact .cons q1 (.cons q0 (.nil))
    | .cons _ (.cons _ (.cons _ _)) => exact .nil
def kp_floor_of_one {α : Type} : List α → List α → List α
  | _, [a0] => [a0]
  | _, _ => []
theorem kb_floor_of_one {K : PySem.W.Frag} {f : Addr} {fd : FuncData} (F : Fun K "floor_of" "floor_of" s_floor_of f fd) : KBn K fd ["one"] 0 ["one"] kp_floor_of_one kp_floor_of_one := by
  obtain ⟨oc, od, kV, doc, pm, an, cdv, ct, osl, rfl, lk, hcd⟩ := F.ex
  refine ⟨fun s us ws _ h1 h2 => ?_, fun {vs us zs ws} r1 r2 => ?_⟩
  · match us, ws, h1, h2 with
    | [], [a0], _, _ => exact .of_eq rfl
  · match r2 with
    | .nil => exact .nil
    | .cons q0 (.nil) => exact .cons q0 (.nil)
    | .cons _ (.cons _ _) => exact .nil
def kp_fraction_bottom_top {α : Type} : List α → List α → List α
  | _, [a0, a1] => [a1, a0]
  | _, _ => []
theorem kb_fraction_bottom_top {K : PySem.W.Frag} {f : Addr} {fd : FuncData} (F : Fun K "fraction" "fraction" s_fraction f fd) : KBn K fd ["top", "bottom"] 0 ["bottom", "top"] kp_fraction_bottom_top kp_fraction_bottom_top := by
  obtain ⟨oc, od, kV, doc, pm, an, cdv, ct, osl, rfl, lk, hcd⟩ := F.ex
  refine ⟨fun s us ws _ h1 h2 => ?_, fun {vs us zs ws} r1 r2 => ?_⟩
  · match us, ws, h1, h2 with
    | [], [a0, a1], _, _ => exact .of_eq rfl
  · match r2 with
    | .nil => exact .nil
    | .cons _ (.nil) => exact .nil
    | .cons q0 (.cons q1 (.nil)) => exact .cons q1 (.cons q0 (.nil))
    | .cons _ (.cons _ (.cons _ _)) => exact .nil
def kp_less_other_one {α : Type} : List α → List α → List α
  | _, [a0, a1] => [a1, a0]
  | _, _ => []
theorem kb_less_other_one {K : PySem.W.Frag} {f : Addr} {fd : FuncData} (F : Fun K "less" "less" s_less f fd) : KBn K fd ["one", "other"] 0 ["other", "one"] kp_less_other_one kp_less_other_one := by
  obtain ⟨oc, od, kV, doc, pm, an, cdv, ct, osl, rfl, lk, hcd⟩ := F.ex
  refine ⟨fun s us ws _ h1 h2 => ?_, fun {vs us zs ws} r1 r2 => ?_⟩
  · match us, ws, h1, h2 with
    | [], [a0, a1], _, _ => exact .of_eq rfl
  · match r2 with
    | .nil => exact .nil
    | .cons _ (.nil) => exact .nil
    | .cons q0 (.cons q1 (.nil)) => exact .cons q1 (.cons q0 (.nil))
    | .cons _ (.cons _ (.cons _ _)) => exact .nil
def kp_multiplied_other_one {α : Type} : List α → List α → List α
  | _, [a0, a1] => [a1, a0]
  | _, _ => []
theorem kb_multiplied_other_one {K : PySem.W.Frag} {f : Addr} {fd : FuncData} (F : Fun K "multiplied" "multiplied" s_multiplied f fd) : KBn K fd ["one", "other"] 0 ["other", "one"] kp_multiplied_other_one kp_multiplied_other_one := by
  obtain ⟨oc, od, kV, doc, pm, an, cdv, ct, osl, rfl, lk, hcd⟩ := F.ex
  refine ⟨fun s us ws _ h1 h2 => ?_, fun {vs us zs ws} r1 r2 => ?_⟩
  · match us, ws, h1, h2 with
    | [], [a0, a1], _, _ => exact .of_eq rfl
  · match r2 with
    | .nil => exact .nil
    | .cons _ (.nil) => exact .nil
    | .cons q0 (.cons q1 (.nil)) => exact .cons q1 (.cons q0 (.nil))
    | .cons _ (.cons _ (.cons _ _)) => exact .nil
def kp_worth_numbers_fractions {α : Type} : List α → List α → List α
  | _, [a0, a1] => [a1, a0]
  | _, _ => []
theorem kb_worth_numbers_fractions {K : PySem.W.Frag} {f : Addr} {fd : FuncData} (F : Fun K "worth" "worth" s_worth f fd) : KBn K fd ["fractions", "numbers"] 0 ["numbers", "fractions"] kp_worth_numbers_fractions kp_worth_numbers_fractions := by
  obtain ⟨oc, od, kV, doc, pm, an, cdv, ct, osl, rfl, lk, hcd⟩ := F.ex
  refine ⟨fun s us ws _ h1 h2 => ?_, fun {vs us zs ws} r1 r2 => ?_⟩
  · match us, ws, h1, h2 with
    | [], [a0, a1], _, _ => exact .of_eq rfl
  · match r2 with
    | .nil => exact .nil
    | .cons _ (.nil) => exact .nil
    | .cons q0 (.cons q1 (.nil)) => exact .cons q1 (.cons q0 (.nil))
    | .cons _ (.cons _ (.cons _ _)) => exact .nil
section
variable {P : Program} {w : World} {K : PySem.W.Frag} {mg : Str → Option Value} {base : Heap}
/-! ### fractions as values -/
def FracAt (H : Hp) (v : V) (f : Int × Int) : Prop := ∃ p, v = .ref p ∧ H p = some (.tup [.int f.1, .int f.2])
theorem FracAt.ex {H H' : Hp} {v : V} {f : Int × Int} (h : FracAt H v f) (e : Ex H H') : FracAt H' v f := by
  obtain ⟨p, rfl, hp⟩ := h
  exact ⟨p, rfl, e _ _ hp⟩
theorem FracAt.ext {H H' : Hp} {v : V} {f : Int × Int} (h : FracAt H v f) (e : ExT H H') : FracAt H' v f := by
  obtain ⟨p, rfl, hp⟩ := h
  exact ⟨p, rfl, e _ _ hp⟩
/-! steps of the reading, by name -/
local macro_rules | `(tactic| walk_at "hx") => `(tactic| first | assumption | (refine' DrawsAt.ex ?ha ?hb; (case hb => assumption); (case ha => walk_at "hx")) | (refine' FracAt.ex ?ha ?hb; (case hb => assumption); (case ha => walk_at "hx")) | (refine' exg ?hb ?ha; (case hb => assumption); (case ha => walk_at "hx")))
local macro_rules | `(tactic| walk_at "sz") => `(tactic| first | assumption | (refine' Sz.mul ?sa ?sb; (case sa => walk_at "sz"); (case sb => walk_at "sz")) | (refine' Sz.add ?sa ?sb; (case sa => walk_at "sz"); (case sb => walk_at "sz")) | (refine' Sz.sub ?sa ?sb; (case sa => walk_at "sz"); (case sb => walk_at "sz")) | (refine' Sz.neg ?sa; (case sa => walk_at "sz")))
local macro_rules | `(tactic| walk_at "szm") => `(tactic| ((try dsimp only); refine' Sz.mono ?sa ?sb; (case sa => walk_at "sz"); (case sb => decide)))
local macro_rules | `(tactic| walk_at "ml") => `(tactic| (refine' mul_okE ?sa ?sb ?c0 ?c1 ?c2; (case sa => walk_at "sz"); (case sb => walk_at "sz"); (case c0 => decide); (case c1 => decide); (case c2 => decide)))
local macro_rules | `(tactic| walk_at "lit") => `(tactic| (show Int.natAbs _ < 2 ^ _; decide))
local macro_rules | `(tactic| walk_at "ex") => `(tactic| first | exact ex0 | assumption | (refine' Evl.Ex.trans ?ea ?eb; (case eb => assumption); (case ea => walk_at "ex")))
local macro_rules | `(tactic| walk_at "bd") => `(tactic| (refine' Sz.mono (m := 20) ?sa ?sb; (case sb => decide); (case sa => walk_at "lit")))

theorem ret_frac {H : Hp} {p : Addr} {Q : VK} {f : Int × Int} {xs : List V} (hp : H p = none) (k : ∀ v H', Ex H H' → FracAt H' v f → Q v H') (e : xs = [.int f.1, .int f.2]) : Q (.ref p) (upd H p (.tup xs)) :=
  k _ _ (exn hp) ⟨p, rfl, by rw [e]; exact upd_same⟩

/-! ### fraction -/
def spFraction : Sp := fun vs H Q _ => ∃ t b : Int, vs = [.int t, .int b] ∧ b ≠ 0 ∧ Sz 8900 b ∧ ∀ v H', Ex H H' → FracAt H' v (red t b) → Q v H'
theorem ok_fraction (T : Tx K mg) : FnOk P w K mg base CX0 1 T.fraction T.fraction_fd ["top", "bottom"] spFraction := by
  refine T.fraction_F.ok sc_fraction (fun vs H Q E h => ?_) (fun cdv A outer s H vs Q E hr h => ?_)
  · obtain ⟨t, b, rfl, _⟩ := h
    rfl
  · obtain ⟨t, b, rfl, hb, hs, k⟩ := h
    refine ⟨_, (pss_cons (ps_set (i := 2) sc_fraction.nd rfl (Or.inl rfl) (pe_callBfun cr_gcd (by rfl) T.l_gcd (pa_cons (pv 0) (pa_cons (pv 1) pa_nil))))
      (pss_cons (ps_if (pt_cmpR op_lt (pv 1) pe_int (nomark _)) (pss_one (ps_set (i := 2) sc_fraction.nd rfl (Or.inl rfl) (pe_un un_neg (pv 2)))) pss_nil)
      (pss_one (ps_ret (pe_tup (pa_cons (pe_op Pre.op_fdivG (pv 0) (pv 2)) (pa_cons (pe_op Pre.op_fdivG (pv 1) (pv 2)) pa_nil))))))), ?_⟩
    have hp : Sz 8900 (part t b) := hs.le (part_le hb)
    have hn := part_ne (t := t) hb
    refine ⟨_, rfl, _, rfl, t, b, rfl, _, rfl, _, _, rfl, rfl, _, rfl, ite2 (fun hc => ?_) (fun hc => ?_)⟩
    · have e : part t b = -((Nat.gcd t.natAbs b.natAbs : Nat) : Int) := if_pos (of_decide_eq_true hc)
      rw [e] at hn hp
      refine ⟨_, rfl, _, rfl, _, rfl, _, rfl, _, _, rfl, rfl, fdiv_ok hn hp, _, rfl, _, rfl, _, _, rfl, rfl, fdiv_ok hn hp, (by show 2 ≤ sizeLine; decide), fun p np => ?_⟩
      exact ret_frac np k (by unfold red; rw [e])
    · have e : part t b = ((Nat.gcd t.natAbs b.natAbs : Nat) : Int) := if_neg fun q => hc (decide_eq_true q)
      rw [e] at hn hp
      refine ⟨_, rfl, _, rfl, _, _, rfl, rfl, fdiv_ok hn hp, _, rfl, _, rfl, _, _, rfl, rfl, fdiv_ok hn hp, (by show 2 ≤ sizeLine; decide), fun p np => ?_⟩
      exact ret_frac np k (by unfold red; rw [e])

/-! ### the four ways of counting -/
def spBin (g1 g2 : Int → Int → Int → Int → Int) : Sp := fun vs H Q _ => ∃ u v f g, vs = [u, v] ∧ FracAt H u f ∧ FracAt H v g ∧ Sz 4000 f.1 ∧ Sz 4000 f.2 ∧ Sz 4000 g.1 ∧ Sz 4000 g.2 ∧ g2 f.1 f.2 g.1 g.2 ≠ 0 ∧
  ∀ r H', Ex H H' → FracAt H' r (red (g1 f.1 f.2 g.1 g.2) (g2 f.1 f.2 g.1 g.2)) → Q r H'
theorem bin_len {g1 g2 : Int → Int → Int → Int → Int} (vs : List V) (H : Hp) (Q : VK) (E : XK) (h : spBin g1 g2 vs H Q E) : vs.length = 2 := by
  obtain ⟨u, v, f, g, rfl, _⟩ := h
  rfl
theorem ok_added (T : Tx K mg) : FnOk P w K mg base CX0 2 T.added T.added_fd ["one", "other"] (spBin (fun a b c d => a * d + c * b) (fun _ b _ d => b * d)) := by
  refine T.added_F.ok sc_added bin_len (fun cdv A outer s H vs Q E hr h => ?_)
  obtain ⟨u, v, f, g, rfl, ⟨p, rfl, hp⟩, ⟨q, rfl, hq⟩, s1, s2, s3, s4, hn, k⟩ := h
  refine ⟨_, (pss_one (ps_ret (pe_call (ok_fraction T) (hr.mono (by decide)) (by rfl) T.fraction_m T.fraction_F.kp T.fraction_b .nil pass0 (pa_cons (pe_op op_add (pe_op op_mulW (pe_ix ix_tup (pv 0) pe_int (fun _ _ => rfl)) (pe_ix ix_tup (pv 1) pe_int (fun _ _ => rfl))) (pe_op op_mulW (pe_ix ix_tup (pv 1) pe_int (fun _ _ => rfl)) (pe_ix ix_tup (pv 0) pe_int (fun _ _ => rfl)))) (pa_cons (pe_op op_mulW (pe_ix ix_tup (pv 0) pe_int (fun _ _ => rfl)) (pe_ix ix_tup (pv 1) pe_int (fun _ _ => rfl))) pa_nil))))), ?_⟩
  refine ⟨_, rfl, p, _, _, _, rfl, rfl, SqT.of hp, rfl, _, rfl, q, _, _, _, rfl, rfl, SqT.of hq, rfl, _, _, rfl, rfl, (by walk_at "ml"), _, rfl, q, _, _, _, rfl, rfl, SqT.of hq, rfl, _, rfl, p, _, _, _, rfl, rfl, SqT.of hp, rfl, _, _, rfl, rfl, (by walk_at "ml"), _, _, rfl, rfl,
    _, rfl, p, _, _, _, rfl, rfl, SqT.of hp, rfl, _, rfl, q, _, _, _, rfl, rfl, SqT.of hq, rfl, _, _, rfl, rfl, (by walk_at "ml"), _, _, rfl, hn, (by walk_at "szm"), k⟩
theorem ok_less (T : Tx K mg) : FnOk P w K mg base CX0 2 T.less T.less_fd ["one", "other"] (spBin (fun a b c d => a * d - c * b) (fun _ b _ d => b * d)) := by
  refine T.less_F.ok sc_less bin_len (fun cdv A outer s H vs Q E hr h => ?_)
  obtain ⟨u, v, f, g, rfl, ⟨p, rfl, hp⟩, ⟨q, rfl, hq⟩, s1, s2, s3, s4, hn, k⟩ := h
  refine ⟨_, (pss_one (ps_ret (pe_call (ok_fraction T) (hr.mono (by decide)) (by rfl) T.fraction_m T.fraction_F.kp T.fraction_b .nil pass0 (pa_cons (pe_op op_sub (pe_op op_mulW (pe_ix ix_tup (pv 0) pe_int (fun _ _ => rfl)) (pe_ix ix_tup (pv 1) pe_int (fun _ _ => rfl))) (pe_op op_mulW (pe_ix ix_tup (pv 1) pe_int (fun _ _ => rfl)) (pe_ix ix_tup (pv 0) pe_int (fun _ _ => rfl)))) (pa_cons (pe_op op_mulW (pe_ix ix_tup (pv 0) pe_int (fun _ _ => rfl)) (pe_ix ix_tup (pv 1) pe_int (fun _ _ => rfl))) pa_nil))))), ?_⟩
  refine ⟨_, rfl, p, _, _, _, rfl, rfl, SqT.of hp, rfl, _, rfl, q, _, _, _, rfl, rfl, SqT.of hq, rfl, _, _, rfl, rfl, (by walk_at "ml"), _, rfl, q, _, _, _, rfl, rfl, SqT.of hq, rfl, _, rfl, p, _, _, _, rfl, rfl, SqT.of hp, rfl, _, _, rfl, rfl, (by walk_at "ml"), _, _, rfl, rfl,
    _, rfl, p, _, _, _, rfl, rfl, SqT.of hp, rfl, _, rfl, q, _, _, _, rfl, rfl, SqT.of hq, rfl, _, _, rfl, rfl, (by walk_at "ml"), _, _, rfl, hn, (by walk_at "szm"), k⟩
theorem ok_multiplied (T : Tx K mg) : FnOk P w K mg base CX0 2 T.multiplied T.multiplied_fd ["one", "other"] (spBin (fun a _ c _ => a * c) (fun _ b _ d => b * d)) := by
  refine T.multiplied_F.ok sc_multiplied bin_len (fun cdv A outer s H vs Q E hr h => ?_)
  obtain ⟨u, v, f, g, rfl, ⟨p, rfl, hp⟩, ⟨q, rfl, hq⟩, s1, s2, s3, s4, hn, k⟩ := h
  refine ⟨_, (pss_one (ps_ret (pe_call (ok_fraction T) (hr.mono (by decide)) (by rfl) T.fraction_m T.fraction_F.kp T.fraction_b .nil pass0 (pa_cons (pe_op op_mulW (pe_ix ix_tup (pv 0) pe_int (fun _ _ => rfl)) (pe_ix ix_tup (pv 1) pe_int (fun _ _ => rfl))) (pa_cons (pe_op op_mulW (pe_ix ix_tup (pv 0) pe_int (fun _ _ => rfl)) (pe_ix ix_tup (pv 1) pe_int (fun _ _ => rfl))) pa_nil))))), ?_⟩
  refine ⟨_, rfl, p, _, _, _, rfl, rfl, SqT.of hp, rfl, _, rfl, q, _, _, _, rfl, rfl, SqT.of hq, rfl, _, _, rfl, rfl, (by walk_at "ml"),
    _, rfl, p, _, _, _, rfl, rfl, SqT.of hp, rfl, _, rfl, q, _, _, _, rfl, rfl, SqT.of hq, rfl, _, _, rfl, rfl, (by walk_at "ml"), _, _, rfl, hn, (by walk_at "szm"), k⟩
theorem ok_divided (T : Tx K mg) : FnOk P w K mg base CX0 2 T.divided T.divided_fd ["one", "other"] (spBin (fun a _ _ d => a * d) (fun _ b c _ => b * c)) := by
  refine T.divided_F.ok sc_divided bin_len (fun cdv A outer s H vs Q E hr h => ?_)
  obtain ⟨u, v, f, g, rfl, ⟨p, rfl, hp⟩, ⟨q, rfl, hq⟩, s1, s2, s3, s4, hn, k⟩ := h
  refine ⟨_, (pss_one (ps_ret (pe_call (ok_fraction T) (hr.mono (by decide)) (by rfl) T.fraction_m T.fraction_F.kp T.fraction_b .nil pass0 (pa_cons (pe_op op_mulW (pe_ix ix_tup (pv 0) pe_int (fun _ _ => rfl)) (pe_ix ix_tup (pv 1) pe_int (fun _ _ => rfl))) (pa_cons (pe_op op_mulW (pe_ix ix_tup (pv 0) pe_int (fun _ _ => rfl)) (pe_ix ix_tup (pv 1) pe_int (fun _ _ => rfl))) pa_nil))))), ?_⟩
  refine ⟨_, rfl, p, _, _, _, rfl, rfl, SqT.of hp, rfl, _, rfl, q, _, _, _, rfl, rfl, SqT.of hq, rfl, _, _, rfl, rfl, (by walk_at "ml"),
    _, rfl, p, _, _, _, rfl, rfl, SqT.of hp, rfl, _, rfl, q, _, _, _, rfl, rfl, SqT.of hq, rfl, _, _, rfl, rfl, (by walk_at "ml"), _, _, rfl, hn, (by walk_at "szm"), k⟩
/-! ### comparing, floors -/
def rank (f g : Int × Int) : Int := if f.1 * g.2 = g.1 * f.2 then 0 else if f.1 * g.2 < g.1 * f.2 then -1 else 1
def spCompared : Sp := fun vs H Q _ => ∃ u v f g, vs = [u, v] ∧ FracAt H u f ∧ FracAt H v g ∧ Sz 4000 f.1 ∧ Sz 4000 f.2 ∧ Sz 4000 g.1 ∧ Sz 4000 g.2 ∧ Q (.int (rank f g)) H
theorem ok_compared (T : Tx K mg) : FnOk P w K mg base CX0 1 T.compared T.compared_fd ["one", "other"] spCompared := by
  refine T.compared_F.ok sc_compared (fun vs H Q E h => ?_) (fun cdv A outer s H vs Q E hr h => ?_)
  · obtain ⟨u, v, f, g, rfl, _⟩ := h
    rfl
  · obtain ⟨u, v, f, g, rfl, ⟨p, rfl, hp⟩, ⟨q, rfl, hq⟩, s1, s2, s3, s4, k⟩ := h
    refine ⟨_, (pss_cons (ps_par (i := 2) (j := 3) (by rfl) sc_compared.nd rfl rfl (by decide) rfl rfl (pa_cons (pe_op op_mulW (pe_ix ix_tup (pv 0) pe_int (fun _ _ => rfl)) (pe_ix ix_tup (pv 1) pe_int (fun _ _ => rfl))) (pa_cons (pe_op op_mulW (pe_ix ix_tup (pv 1) pe_int (fun _ _ => rfl)) (pe_ix ix_tup (pv 0) pe_int (fun _ _ => rfl))) pa_nil)) (by rfl))
      (pss_cons (ps_if (pt_cmpR op_eq (pv 2) (pv 3) (nomark _)) (pss_one (ps_ret pe_int)) pss_nil)
      (pss_one (ps_ret (pe_ifExp (pt_cmpR op_lt (pv 2) (pv 3) (nomark _)) (pe_un un_neg pe_int) pe_int))))), ?_⟩
    refine ⟨_, rfl, p, _, _, _, rfl, rfl, SqT.of hp, rfl, _, rfl, q, _, _, _, rfl, rfl, SqT.of hq, rfl, _, _, rfl, rfl, (by walk_at "ml"), _, rfl, q, _, _, _, rfl, rfl, SqT.of hq, rfl, _, rfl, p, _, _, _, rfl, rfl, SqT.of hp, rfl, _, _, rfl, rfl, (by walk_at "ml"), _, _, rfl,
      _, rfl, _, rfl, rfl, _, rfl, ite2 (fun hc => ?_) (fun hc => ?_)⟩
    · rw [decI] at hc
      unfold rank at k
      rw [if_pos (of_decide_eq_true hc)] at k
      exact k
    · rw [decI] at hc
      unfold rank at k
      rw [if_neg (fun q => hc (decide_eq_true q))] at k
      refine ⟨_, rfl, _, rfl, _, _, rfl, rfl, _, rfl, ite2 (fun hd => ?_) (fun hd => ?_)⟩
      · rw [if_pos (of_decide_eq_true hd)] at k
        exact ⟨_, rfl, k⟩
      · rw [if_neg (fun q => hd (decide_eq_true q))] at k
        exact k
def spWhole : Sp := fun vs H Q _ => ∃ u f, vs = [u] ∧ FracAt H u f ∧ Q (.bl (decide (f.2 = 1))) H
theorem ok_is_whole (T : Tx K mg) : FnOk P w K mg base CX0 1 T.is_whole T.is_whole_fd ["one"] spWhole := by
  refine T.is_whole_F.ok sc_is_whole (fun vs H Q E h => ?_) (fun cdv A outer s H vs Q E hr h => ?_)
  · obtain ⟨u, f, rfl, _⟩ := h
    rfl
  · obtain ⟨u, f, rfl, ⟨p, rfl, hp⟩, k⟩ := h
    refine ⟨_, (pss_one (ps_ret (pe_cmpR op_eq (pe_ix ix_tup (pv 0) pe_int (fun _ _ => rfl)) pe_int (nomark _)))), ?_⟩
    rw [← decI] at k
    exact ⟨_, rfl, p, _, _, _, rfl, rfl, SqT.of hp, rfl, rfl, k⟩
def spFloor : Sp := fun vs H Q _ => ∃ u f, vs = [u] ∧ FracAt H u f ∧ f.2 ≠ 0 ∧ Sz 8900 f.2 ∧ Q (.int (f.1.fdiv f.2)) H
theorem ok_floor_of (T : Tx K mg) : FnOk P w K mg base CX0 1 T.floor_of T.floor_of_fd ["one"] spFloor := by
  refine T.floor_of_F.ok sc_floor_of (fun vs H Q E h => ?_) (fun cdv A outer s H vs Q E hr h => ?_)
  · obtain ⟨u, f, rfl, _⟩ := h
    rfl
  · obtain ⟨u, f, rfl, ⟨p, rfl, hp⟩, hn, hs, k⟩ := h
    refine ⟨_, (pss_one (ps_ret (pe_op Pre.op_fdivG (pe_ix ix_tup (pv 0) pe_int (fun _ _ => rfl)) (pe_ix ix_tup (pv 0) pe_int (fun _ _ => rfl))))), ?_⟩
    exact ⟨_, rfl, p, _, _, _, rfl, rfl, SqT.of hp, rfl, _, rfl, p, _, _, _, rfl, rfl, SqT.of hp, rfl, _, _, rfl, rfl, fdiv_ok hn hs, k⟩
end
end K24
set_option maxRecDepth 100000
set_option maxHeartbeats 4000000
namespace K24
open PySem PySem.Spec PyProof.Rows L2 M24 Pre
section
variable {P : Program} {w : World} {K : PySem.W.Frag} {mg : Str → Option Value} {base : Heap}
/-! steps of the reading, by name -/
local macro_rules | `(tactic| walk_at "hx") => `(tactic| first | assumption | (refine' DrawsAt.ex ?ha ?hb; (case hb => assumption); (case ha => walk_at "hx")) | (refine' FracAt.ex ?ha ?hb; (case hb => assumption); (case ha => walk_at "hx")) | (refine' exg ?hb ?ha; (case hb => assumption); (case ha => walk_at "hx")))
local macro_rules | `(tactic| walk_at "sz") => `(tactic| first | assumption | (refine' Sz.mul ?sa ?sb; (case sa => walk_at "sz"); (case sb => walk_at "sz")) | (refine' Sz.add ?sa ?sb; (case sa => walk_at "sz"); (case sb => walk_at "sz")) | (refine' Sz.sub ?sa ?sb; (case sa => walk_at "sz"); (case sb => walk_at "sz")) | (refine' Sz.neg ?sa; (case sa => walk_at "sz")))
local macro_rules | `(tactic| walk_at "szm") => `(tactic| ((try dsimp only); refine' Sz.mono ?sa ?sb; (case sa => walk_at "sz"); (case sb => decide)))
local macro_rules | `(tactic| walk_at "ml") => `(tactic| (refine' mul_okE ?sa ?sb ?c0 ?c1 ?c2; (case sa => walk_at "sz"); (case sb => walk_at "sz"); (case c0 => decide); (case c1 => decide); (case c2 => decide)))
local macro_rules | `(tactic| walk_at "lit") => `(tactic| (show Int.natAbs _ < 2 ^ _; decide))
local macro_rules | `(tactic| walk_at "ex") => `(tactic| first | exact ex0 | assumption | (refine' Evl.Ex.trans ?ea ?eb; (case eb => assumption); (case ea => walk_at "ex")))
local macro_rules | `(tactic| walk_at "bd") => `(tactic| (refine' Sz.mono (m := 20) ?sa ?sb; (case sb => decide); (case sa => walk_at "lit")))

/-- the items are these fractions -/
def Fracs (H : Hp) (xs : List V) (fs : List (Int × Int)) : Prop := xs.length = fs.length ∧ ∀ (i : Nat) x f, xs[i]? = some x → fs[i]? = some f → FracAt H x f
theorem Fracs.ex {H H' : Hp} {xs : List V} {fs : List (Int × Int)} (h : Fracs H xs fs) (e : Ex H H') : Fracs H' xs fs := ⟨h.1, fun i x f a b => (h.2 i x f a b).ex e⟩
/-- in lowest terms and small -/
def Small (f : Int × Int) : Prop := 0 < f.2 ∧ Sz 31 f.1 ∧ Sz 31 f.2
theorem fdiv_le {d B : Int} (hd : 0 < d) (h : d ∣ B) : (B.fdiv d).natAbs ≤ B.natAbs := by
  obtain ⟨x, rfl⟩ := h
  rw [Int.mul_fdiv_cancel_left x (by omega), Int.natAbs_mul]
  exact Nat.le_mul_of_pos_left _ (by omega)
theorem lcms_sz {fs : List (Int × Int)} (hs : ∀ f, f ∈ fs → Small f) : ∀ i : Nat, i ≤ fs.length → 0 < lcms (fs.take i) ∧ Sz (31 * i + 1) (lcms (fs.take i))
  | 0, _ => ⟨by show (0 : Int) < 1; decide, by show (1 : Int).natAbs < 2 ^ 1; decide⟩
  | i + 1, hi => by
    obtain ⟨p, z⟩ := lcms_sz hs i (by omega)
    have g : fs[i]? = some fs[i] := List.getElem?_eq_getElem (by omega)
    obtain ⟨q, _, z2⟩ := hs _ (List.getElem_mem (show i < fs.length by omega))
    rw [lcms_take g]
    have p2 := lcmStep_pos p q
    refine ⟨p2, ?_⟩
    have le := lcmStep_le p q
    have m := z.mul z2
    have e : 31 * i + 1 + 31 = 31 * (i + 1) + 1 := by omega
    rw [e] at m
    exact m.le (by omega)
theorem lcms_sz_all {fs : List (Int × Int)} (hs : ∀ f, f ∈ fs → Small f) (hl : fs.length ≤ 40) : 0 < lcms fs ∧ Sz 1241 (lcms fs) := by
  have h := lcms_sz hs fs.length (Nat.le_refl _)
  rw [List.take_length] at h
  exact ⟨h.1, h.2.mono (by omega)⟩
def spBottom (K : PySem.W.Frag) : Sp := fun vs H Q _ => ∃ (a : Addr) (xs : List V) (fs : List (Int × Int)), vs = [.ref a] ∧ SqV K H a xs ∧ Fracs H xs fs ∧ fs.length ≤ 40 ∧ (∀ f, f ∈ fs → Small f) ∧ Q (.int (lcms fs)) H
theorem ok_bottom_of (T : Tx K mg) : FnOk P w K mg base CX0 1 T.bottom_of T.bottom_of_fd ["fractions"] (spBottom K) := by
  refine T.bottom_of_F.ok sc_bottom_of (fun vs H Q E h => ?_) (fun cdv A outer s H vs Q E hr h => ?_)
  · obtain ⟨a, xs, fs, rfl, _⟩ := h
    rfl
  · obtain ⟨a, xs, fs, rfl, hq, hf, hl, hs, k⟩ := h
    refine ⟨_, (pss_cons (ps_set (i := 1) sc_bottom_of.nd rfl (Or.inl rfl) pe_int)
      (pss_cons (ps_for PassesOwn.never rfl (Pre.pi_seq (pv 0)) (pg_name (i := 2) sc_bottom_of.nd rfl (Or.inl rfl)) (pss_one (ps_set (i := 1) sc_bottom_of.nd rfl (Or.inl rfl) (pe_op op_mulW (pe_op Pre.op_fdivG (pv 1) (pe_callBfun cr_gcd (by rfl) T.l_gcd (pa_cons (pv 1) (pa_cons (pe_ix ix_tup (pv 2) pe_int (fun _ _ => rfl)) pa_nil)))) (pe_ix ix_tup (pv 2) pe_int (fun _ _ => rfl))))))
      (pss_one (ps_ret (pv 1))))), ?_⟩
    refine for_seq (K := K) (rds_var rfl) hq (fun i σ' H' => H' = H ∧ ∃ v2, σ' = [some (.ref a), some (.int (lcms (fs.take i))), v2]) ⟨rfl, none, rfl⟩ (fun i σ' H' p => by rw [p.1]; exact ex0) ?_ ?_
    · rintro i x σ' H' hx ⟨rfl, v2, rfl⟩
      have hi : i < fs.length := by
        rw [← hf.1]
        exact (List.getElem?_eq_some_iff.mp hx).1
      have g : fs[i]? = some fs[i] := List.getElem?_eq_getElem hi
      obtain ⟨p, rfl, hp⟩ := hf.2 i x _ hx g
      obtain ⟨pos, z1, z2⟩ := hs _ (List.getElem_mem hi)
      obtain ⟨lp, lz⟩ := lcms_sz hs i (by omega)
      have lz2 : Sz 1241 (lcms (fs.take i)) := lz.mono (by omega)
      have hg : 0 < Nat.gcd (lcms (fs.take i)).natAbs fs[i].2.natAbs := Nat.gcd_pos_of_pos_right _ (by omega)
      have hgz : Sz 31 ((Nat.gcd (lcms (fs.take i)).natAbs fs[i].2.natAbs : Nat) : Int) := z2.le (by
        have := Nat.le_of_dvd (by omega) (Nat.gcd_dvd_right (lcms (fs.take i)).natAbs fs[i].2.natAbs)
        omega)
      have hd : ((Nat.gcd (lcms (fs.take i)).natAbs fs[i].2.natAbs : Nat) : Int) ∣ lcms (fs.take i) := by
        rw [← Int.natAbs_dvd_natAbs]
        exact Nat.gcd_dvd_left _ _
      have hdz : Sz 1241 ((lcms (fs.take i)).fdiv ((Nat.gcd (lcms (fs.take i)).natAbs fs[i].2.natAbs : Nat) : Int)) := lz2.le (fdiv_le (by omega) hd)
      refine ⟨_, rfl, _, rfl, _, rfl, p, _, _, _, rfl, rfl, SqT.of hp, rfl, _, _, rfl, _, _, rfl, rfl, fdiv_ok (by omega) hgz, _, rfl, p, _, _, _, rfl, rfl, SqT.of hp, rfl, _, _, rfl, rfl, mul_ok hdz z2, rfl, some (V.ref p), ?_⟩
      rw [lcms_take g]
      rfl
    · rintro σ' H' ⟨rfl, v2, rfl⟩
      refine ⟨_, rfl, ?_⟩
      rw [List.take_of_length_le (by rw [hf.1]; exact Nat.le_refl _)]
      exact k
theorem ints_of : ∀ {ys : List V} {zs : List Int}, ys.length = zs.length → (∀ (j : Nat) y, ys[j]? = some y → ∃ z, zs[j]? = some z ∧ y = .int z) → ys = zs.map V.int
  | [], [], _, _ => rfl
  | y :: ys, z :: zs, hl, h => by
    obtain ⟨z', e, r⟩ := h 0 y rfl
    have e' : z = z' := Option.some.inj e
    rw [r, ← e', ints_of (ys := ys) (zs := zs) (Nat.succ.inj hl) (fun j y hy => h (j + 1) y hy)]
    rfl
def spWholes (K : PySem.W.Frag) : Sp := fun vs H Q _ => ∃ (a : Addr) (xs : List V) (fs : List (Int × Int)) (B : Int), vs = [.ref a, .int B] ∧ SqV K H a xs ∧ Fracs H xs fs ∧ fs.length ≤ 40 ∧ (∀ f, f ∈ fs → Small f) ∧ (∀ f, f ∈ fs → f.2 ∣ B) ∧ Sz 1241 B ∧
  ∀ p H', H p = none → Ex H H' → H' p = some (.lst ((tops fs B).map V.int)) → Q (.ref p) H'
theorem ok_whole_times (T : Tx K mg) : FnOk P w K mg base CX0 1 T.whole_times T.whole_times_fd ["fractions", "number"] (spWholes K) := by
  refine T.whole_times_F.ok sc_whole_times (fun vs H Q E h => ?_) (fun cdv A outer s H vs Q E hr h => ?_)
  · obtain ⟨a, xs, fs, B, rfl, _⟩ := h
    rfl
  · obtain ⟨a, xs, fs, B, rfl, hq, hf, hl, hs, hd, hB, k⟩ := h
    refine ⟨_, (pss_one (ps_ret (pe_lc (own := [("top", 2), ("bottom", 3)]) (g := gTup K 2 (gCons (gName 2) (gCons (gName 3) (gNil)))) rfl sc_whole_times.nd (Pre.pi_seq (pv 0)) (blkOk_by (own := [("top", 2), ("bottom", 3)]) (N := ["fractions", "number", "top", "bottom"]) (sc := defScope s_whole_times) (by decide +kernel)) (fun _ _ _ _ _ => pg_tup rfl (pgs_cons (pg_name (i := 2) sc_whole_times.nd rfl (Or.inl rfl)) (pgs_cons (pg_name (i := 3) sc_whole_times.nd rfl (Or.inl rfl)) pgs_nil))) (fun _ _ _ _ _ => pts_nil) (fun _ _ _ _ _ => pe_op op_mulW (pv 2) (pe_op Pre.op_fdivG (pv 1) (pv 3)))))), ?_⟩
    refine made_seq (K := K) (rds_var rfl) (R := fun i y _ => ∃ z, (tops fs B)[i]? = some z ∧ y = .int z) (fun _ _ _ _ _ r => r) hq (by rw [hf.1]; omega) (fun i x H1 hx e1 Y hY => ?_) (fun Dl H' ys nD e1 hD hlen hys => ?_)
    · have hi : i < fs.length := by
        rw [← hf.1]
        exact (List.getElem?_eq_some_iff.mp hx).1
      have g : fs[i]? = some fs[i] := List.getElem?_eq_getElem hi
      obtain ⟨p, rfl, hp⟩ := (hf.2 i x _ hx g).ex e1
      obtain ⟨pos, z1, z2⟩ := hs _ (List.getElem_mem hi)
      have hdz : Sz 1241 (B.fdiv fs[i].2) := hB.le (fdiv_le pos (hd _ (List.getElem_mem hi)))
      refine ⟨p, _, rfl, SqT.of hp, rfl, _, _, rfl, _, _, rfl, rfl, rfl, _, rfl, _, rfl, _, rfl, _, _, rfl, rfl, fdiv_ok (by omega) z2, _, _, rfl, rfl, mul_ok z1 hdz, ?_⟩
      exact hY _ _ ex0 ⟨_, by unfold tops; rw [List.getElem?_map, g]; rfl, rfl⟩
    · have e : ys = (tops fs B).map V.int := ints_of (by rw [hlen, hf.1]; unfold tops; rw [List.length_map]) hys
      rw [e] at hD
      exact k Dl H' nD e1 hD
theorem addUp_sum (B : Int) : ∀ (fs : List (Int × Int)) (ns : List Int), (List.zipWith (fun t n => t * n) (tops fs B) ns).sum = addUp B fs ns
  | [], _ => by simp [tops, addUp]
  | _ :: _, [] => by simp [tops, addUp]
  | f :: fs, n :: ns => by
    have ih := addUp_sum B fs ns
    unfold tops at ih ⊢
    rw [List.map_cons, List.zipWith_cons_cons, List.sum_cons, ih]
    rfl
def spWorth (K : PySem.W.Frag) : Sp := fun vs H Q _ => ∃ (a b : Addr) (xs : List V) (fs : List (Int × Int)) (ns : List Int), vs = [.ref a, .ref b] ∧ SqV K H a xs ∧ Fracs H xs fs ∧ SqV K H b (ns.map V.int) ∧ ns.length = fs.length ∧ fs.length ≤ 40 ∧ (∀ f, f ∈ fs → Small f) ∧ (∀ n, n ∈ ns → Sz 41 n) ∧
  ∀ v H', Ex H H' → FracAt H' v (red (addUp (lcms fs) fs ns) (lcms fs)) → Q v H'
theorem ok_worth (T : Tx K mg) : FnOk P w K mg base CX0 2 T.worth T.worth_fd ["fractions", "numbers"] (spWorth K) := by
  refine T.worth_F.ok sc_worth (fun vs H Q E h => ?_) (fun cdv A outer s H vs Q E hr h => ?_)
  · obtain ⟨a, b, xs, fs, ns, rfl, _⟩ := h
    rfl
  · obtain ⟨a, b, xs, fs, ns, rfl, hq, hf, hb, hnl, hl, hs, hz, k⟩ := h
    obtain ⟨lp, lz⟩ := lcms_sz_all hs hl
    refine ⟨_, (pss_cons (ps_set (i := 2) sc_worth.nd rfl (Or.inl rfl) (pe_call (ok_bottom_of T) (hr.mono (by decide)) (by rfl) T.bottom_of_m T.bottom_of_F.kp T.bottom_of_b .nil pass0 (pa_cons (pv 0) pa_nil)))
      (pss_cons (ps_set (i := 3) sc_worth.nd rfl (Or.inl rfl) (pe_call (ok_whole_times T) (hr.mono (by decide)) (by rfl) T.whole_times_m T.whole_times_F.kp T.whole_times_b .nil pass0 (pa_cons (pv 0) (pa_cons (pv 2) pa_nil))))
      (pss_one (ps_ret (pe_call (ok_fraction T) (hr.mono (by decide)) (by rfl) T.fraction_m T.fraction_F.kp T.fraction_b .nil pass0 (pa_cons (pe_callB (cr_sum rfl) (by rfl) T.z_sum (by decide +kernel) (pa_cons (pe_lc (own := [("top", 4), ("number", 5)]) (g := gTup K 2 (gCons (gName 4) (gCons (gName 5) (gNil)))) rfl sc_worth.nd (Pre.pi_zipM (by rfl) T.z_zip (pa_cons (pv 3) (pa_cons (pv 1) pa_nil))) (blkOk_by (own := [("top", 4), ("number", 5)]) (N := ["fractions", "numbers", "bottom", "tops", "top", "number"]) (sc := defScope s_worth) (by decide +kernel)) (fun _ _ _ _ _ => pg_tup rfl (pgs_cons (pg_name (i := 4) sc_worth.nd rfl (Or.inl rfl)) (pgs_cons (pg_name (i := 5) sc_worth.nd rfl (Or.inl rfl)) pgs_nil))) (fun _ _ _ _ _ => pts_nil) (fun _ _ _ _ _ => pe_op op_mulW (pv 4) (pv 5))) pa_nil)) (pa_cons (pv 2) pa_nil))))))), ?_⟩
    refine ⟨_, rfl, a, xs, fs, rfl, hq, hf, hl, hs, _, rfl, _, rfl, a, xs, fs, _, rfl, hq, hf, hl, hs, fun f m => lcms_all m, lz, fun p H1 np e1 hp => ?_⟩
    obtain ⟨k2, hb2⟩ := sqB_of (hb.ex e1)
    refine ⟨_, rfl, _, rfl, true, k2, p, b, _, _, rfl, show SqL K H1 p _ from SqL.of hp, hb2, fun Dl nD => ?_⟩
    have tl : (tops fs (lcms fs)).length = fs.length := by
      unfold tops
      rw [List.length_map]
    refine made_zip (K := K) (R := fun i y _ => ∃ z, (List.zipWith (fun t n => t * n) (tops fs (lcms fs)) ns)[i]? = some z ∧ y = .int z) (fun _ _ _ _ _ r => r) (show SqB true K H1 p _ from SqL.of hp) hb2 (by rw [List.length_map, List.length_map, tl, hnl]) (by rw [List.length_map, tl]; omega) (fun i x y Tp H2 hx hy e2 hT Y hY => ?_) nD (fun H2 ys e2 hD hlen hys => ?_)
    · have hi : i < fs.length := by
        have := (List.getElem?_eq_some_iff.mp hx).1
        rw [List.length_map, tl] at this
        exact this
      have g : fs[i]? = some fs[i] := List.getElem?_eq_getElem hi
      have g2 : ns[i]? = some ns[i] := List.getElem?_eq_getElem (by omega)
      have gt : (tops fs (lcms fs))[i]? = some (fs[i].1 * (lcms fs).fdiv fs[i].2) := by
        unfold tops
        rw [List.getElem?_map, g]
        rfl
      rw [List.getElem?_map, gt] at hx
      rw [List.getElem?_map, g2] at hy
      have ex : V.int (fs[i].1 * (lcms fs).fdiv fs[i].2) = x := Option.some.inj hx
      have ey : V.int ns[i] = y := Option.some.inj hy
      subst ex ey
      obtain ⟨pos, z1, z2⟩ := hs _ (List.getElem_mem hi)
      have hdz : Sz 1241 ((lcms fs).fdiv fs[i].2) := lz.le (fdiv_le pos (lcms_all (List.getElem_mem hi)))
      have hn : Sz 41 ns[i] := hz _ (List.getElem_mem (by omega))
      refine ⟨Tp, _, rfl, SqT.of hT, rfl, _, _, rfl, _, _, rfl, rfl, rfl, _, rfl, _, rfl, _, _, rfl, rfl, (by walk_at "ml"), ?_⟩
      exact hY _ _ ex0 ⟨_, by rw [List.getElem?_zipWith, gt, g2], rfl⟩
    · have e : ys = (List.zipWith (fun t n => t * n) (tops fs (lcms fs)) ns).map V.int := ints_of (by rw [hlen, List.length_map, List.length_zipWith, tl, hnl, Nat.min_self]) hys
      rw [e] at hD
      refine ⟨Dl, _, rfl, SqL.of hD, _, rfl, _, _, rfl, by omega, lz.mono (by decide), ?_⟩
      rw [addUp_sum]
      exact fun v H' e3 hv => k v H' ((e1.trans e2).trans e3) hv
end
end K24
set_option maxRecDepth 100000
set_option maxHeartbeats 4000000
namespace K24
open PySem PySem.Spec PyProof.Rows L2 M24 Pre
section
variable {P : Program} {w : World} {K : PySem.W.Frag} {mg : Str → Option Value} {base : Heap}
/-! steps of the reading, by name -/
local macro_rules | `(tactic| walk_at "hx") => `(tactic| first | assumption | (refine' DrawsAt.ex ?ha ?hb; (case hb => assumption); (case ha => walk_at "hx")) | (refine' FracAt.ex ?ha ?hb; (case hb => assumption); (case ha => walk_at "hx")) | (refine' exg ?hb ?ha; (case hb => assumption); (case ha => walk_at "hx")))
local macro_rules | `(tactic| walk_at "sz") => `(tactic| first | assumption | (refine' Sz.mul ?sa ?sb; (case sa => walk_at "sz"); (case sb => walk_at "sz")) | (refine' Sz.add ?sa ?sb; (case sa => walk_at "sz"); (case sb => walk_at "sz")) | (refine' Sz.sub ?sa ?sb; (case sa => walk_at "sz"); (case sb => walk_at "sz")) | (refine' Sz.neg ?sa; (case sa => walk_at "sz")))
local macro_rules | `(tactic| walk_at "szm") => `(tactic| ((try dsimp only); refine' Sz.mono ?sa ?sb; (case sa => walk_at "sz"); (case sb => decide)))
local macro_rules | `(tactic| walk_at "ml") => `(tactic| (refine' mul_okE ?sa ?sb ?c0 ?c1 ?c2; (case sa => walk_at "sz"); (case sb => walk_at "sz"); (case c0 => decide); (case c1 => decide); (case c2 => decide)))
local macro_rules | `(tactic| walk_at "lit") => `(tactic| (show Int.natAbs _ < 2 ^ _; decide))
local macro_rules | `(tactic| walk_at "ex") => `(tactic| first | exact ex0 | assumption | (refine' Evl.Ex.trans ?ea ?eb; (case eb => assumption); (case ea => walk_at "ex")))
local macro_rules | `(tactic| walk_at "bd") => `(tactic| (refine' Sz.mono (m := 20) ?sa ?sb; (case sb => decide); (case sa => walk_at "lit")))

/-! ### a draw: some number below the bound -/
def spAny : Sp := fun vs H Q _ => ∃ (d : Addr) (b : Int), vs = [.ref d, .int b] ∧ DrawsAt H d ∧ 0 < b ∧ Sz 9000 b ∧ ∀ v H', Ex H H' → 0 ≤ v → v < b → Q (.int v) H'
theorem ok_law_any (T : Tx K mg) : FnOk P w K mg base CX0 1 T.law_any T.law_any_fd ["draws", "bound"] spAny := by
  refine T.law_any_F.ok sc_law_any (fun vs H Q E h => ?_) (fun cdv A outer s H vs Q E hr h => ?_)
  · obtain ⟨d, b, rfl, _⟩ := h
    rfl
  · obtain ⟨d, b, rfl, ⟨l, hdl, h1, h2⟩, hb, hs, k⟩ := h
    refine ⟨_, (Pre.pss_open (Pre.pss_open (Evl.pss_cut (ps_while PassesOwn.never (PW.pt (pw_and (pt_cmpR (op_neD hr.units) (pe_ix ix_list (pv 0) pe_int (fun _ _ => rfl)) (pe_lst pa_nil) (nomark _)) (pw_and1 (pt_cmpR op_eq (pe_ix ix_list (pe_ix ix_list (pv 0) pe_int (fun _ _ => rfl)) (pe_un un_neg pe_int) (fun _ _ => rfl)) pe_int (nomark _))))) (pss_one (ps_expr (pe_bm0 PySem.F.plainAttrs_list PySem.F.slot_list_pop PySem.F.type_list_pop mt_pop (pe_ix ix_list (pv 0) pe_int (fun _ _ => rfl))))))
      (pss_cons (ps_if (pt_cmpR (op_neD hr.units) (pe_ix ix_list (pv 0) pe_int (fun _ _ => rfl)) (pe_lst pa_nil) (nomark _)) (pss_cons (ps_set (i := 2) sc_law_any.nd rfl (Or.inl rfl) (pe_callTy call_int1 (by rfl) T.z_int (by decide +kernel) (pa_cons (pe_bm0 PySem.F.plainAttrs_list PySem.F.slot_list_pop PySem.F.type_list_pop mt_pop (pe_ix ix_list (pv 0) pe_int (fun _ _ => rfl))) pa_nil)))
      (pss_cons (ps_expr (pe_bm PySem.F.plainAttrs_list PySem.F.slot_list_append PySem.F.type_list_append mt_append (pe_ix ix_list (pv 0) pe_int (fun _ _ => rfl)) (pa_cons (pe_op Pre.op_fdivG (pv 2) (pv 1)) pa_nil)))
      (pss_one (ps_ret (Pre.pe_close (Pre.pe_close (pe_op op_modN (pv 2) (pv 1)))))))) pss_nil)
      (pss_cons (ps_asg (pe_op op_modN (pe_callTy call_int1 (by rfl) T.z_int (by decide +kernel) (pa_cons (pe_op op_add (pe_op op_mulW (pe_ix ix_list (pv 0) pe_int (fun _ _ => rfl)) pe_int) pe_int) pa_nil)) pe_int) (pg_sub (pv 0) pe_int set_list))
      (pss_one (ps_ret (Pre.pe_close (Pre.pe_close (pe_op op_modN (pe_callTy call_int1 (by rfl) T.z_int (by decide +kernel) (pa_cons (pe_op Pre.op_fdivG (pe_ix ix_list (pv 0) pe_int (fun _ _ => rfl)) pe_int) pa_nil)) (pv 1))))))))))), ?_⟩
    refine ⟨d, DOut l, h1, fun xs ⟨c, ex, c0, c1⟩ _ => ⟨l, DIn, by rw [upd_ne hdl.symm]; exact h2, fun ys ⟨ns, ey, n0, nl⟩ _ => ?_⟩⟩
    subst ex ey
    have S : Sd H d l ns c (upd (upd H d (.lst [.ref l, .int c])) l (.lst (ns.map V.int))) :=
      ⟨by rw [upd_ne hdl]; exact upd_same, upd_same, c0, c1, n0, nl, fun x o h a b => by rw [upd_ne b, upd_ne a]; exact h⟩
    generalize upd (upd H d (.lst [.ref l, .int c])) l (.lst (ns.map V.int)) = H0 at S ⊢
    -- while draws[0] != [] and draws[0][-1] == 0: draws[0].pop()
    refine ⟨fun σ' H' => ∃ ms, σ' = [some (.ref d), some (.int b), none] ∧ Sd H d l ms c H', ⟨fun m σ H1 => ∃ ns, m = ns.length ∧ σ = [some (.ref d), some (.int b), none] ∧ Sd H d l ns c H1, ⟨_, ns, rfl, rfl, S⟩, ?_⟩, ?_⟩
    · rintro m σ H1 ⟨ms, rfl, rfl, S1⟩
      refine ⟨_, rfl, d, _, _, _, rfl, rfl, SqL.of S1.hd, atI0, (by show 0 ≤ sizeLine; decide), fun p np => ⟨_, _, .lst (SqL.of (S1.new np).hl) (dp_ints ms), .lst (SqL.of upd_same) .nil, shaped_ints ms, shaped_ints [], ?_⟩⟩
      have S2 := S1.new (o := .lst []) np
      generalize upd H1 p (.lst []) = H2 at S2 ⊢
      rw [eqv_nil]
      refine ⟨_, rfl, ?_⟩
      cases ms with
      | nil => exact iteF (iteF ⟨[], rfl, S2⟩)
      | cons m ms =>
        refine iteT ?_
        obtain ⟨n, hn, g1, g2, ge⟩ := last_int (ns := m :: ms) (by simp)
        refine ⟨_, rfl, d, _, _, _, rfl, rfl, SqL.of S2.hd, atI0, _, rfl, l, _, _, _, rfl, rfl, SqL.of S2.hl, g1, rfl, _, rfl, ite2 (fun hc => ?_) (fun hc => ⟨_, rfl, S2⟩)⟩
        have dl : ((m :: ms).dropLast).length < (m :: ms).length := by
          rw [List.length_dropLast]
          show ms.length + 1 - 1 < ms.length + 1
          omega
        refine ⟨fun σ' H' => σ' = [some (.ref d), some (.int b), none] ∧ Sd H d l (m :: ms).dropLast c H', fun σ' H' q => ⟨_, dl, _, rfl, q.1, q.2⟩, ?_⟩
        refine ⟨_, rfl, d, _, _, _, rfl, rfl, SqL.of S2.hd, atI0, .inl ⟨rfl, _, SqL.of S2.hl⟩, l, _, _, rfl, rfl, S2.hl, g2, rfl, ?_⟩
        rw [← List.map_dropLast]
        exact S2.inner hdl (fun x hx => S2.n0 x (List.dropLast_subset _ hx)) (by have := S2.nl; omega)
    · rintro σ H1 ⟨ms, rfl, S1⟩
      -- if draws[0] != []
      refine ⟨_, rfl, d, _, _, _, rfl, rfl, SqL.of S1.hd, atI0, (by show 0 ≤ sizeLine; decide), fun p np => ⟨_, _, .lst (SqL.of (S1.new np).hl) (dp_ints ms), .lst (SqL.of upd_same) .nil, shaped_ints ms, shaped_ints [], ?_⟩⟩
      have S2 := S1.new (o := .lst []) np
      generalize upd H1 p (.lst []) = H2 at S2 ⊢
      rw [eqv_nil]
      refine ⟨_, rfl, ?_⟩
      have hbn : b ≠ 0 := by omega
      cases ms with
      | nil =>
        refine iteF ?_
        -- draws[1] = int(draws[1] * 48271 + 41) % 2147483647; return int(draws[1] // 64) % bound
        have z1 : Sz 31 c := Sz.lt S2.b0 S2.b1 (by decide)
        have z2 : Sz 16 48271 := by show (48271 : Int).natAbs < 2 ^ 16; decide
        refine ⟨_, rfl, d, _, _, _, rfl, rfl, SqL.of S2.hd, atI_nat (j := 1) rfl, _, _, rfl, rfl, (by walk_at "ml"), _, _, rfl, rfl, .inl ⟨_, rfl, _, _, rfl, rfl, (by show (2147483647 : Int) ≠ 0; decide), _, rfl, d, _, _, 1, rfl, rfl, S2.hd, rfl, ?_⟩⟩
        have m0 : 0 ≤ (c * 48271 + 41).fmod 2147483647 := by
          rw [Int.fmod_eq_emod_of_nonneg _ (by decide)]
          exact Int.emod_nonneg _ (by decide)
        have m1 : (c * 48271 + 41).fmod 2147483647 < 2147483647 := by
          rw [Int.fmod_eq_emod_of_nonneg _ (by decide)]
          exact Int.emod_lt_of_pos _ (by decide)
        generalize hg : upd H2 d _ = H3
        have S3 : Sd H d l [] ((c * 48271 + 41).fmod 2147483647) H3 := by
          rw [← hg]
          exact S2.outer hdl m0 m1
        clear hg
        generalize (c * 48271 + 41).fmod 2147483647 = c2 at m0 m1 S3
        have z3 : Sz 7 64 := by show (64 : Int).natAbs < 2 ^ 7; decide
        refine ⟨_, rfl, d, _, _, _, rfl, rfl, SqL.of S3.hd, atI_nat (j := 1) rfl, _, _, rfl, rfl, fdiv_ok (by decide) z3, .inl ⟨_, rfl, _, rfl, _, _, rfl, rfl, hbn, l, DIn, _, S3.hl, DIn.of S3.n0 S3.nl, d, DOut l, _, (by rw [upd_ne hdl]; exact S3.hd), ⟨c2, rfl, m0, m1⟩, ?_⟩⟩
        refine k _ _ (S3.shut hdl h1 h2) ?_ ?_
        · rw [Int.fmod_eq_emod_of_nonneg _ (by omega)]
          exact Int.emod_nonneg _ hbn
        · rw [Int.fmod_eq_emod_of_nonneg _ (by omega)]
          exact Int.emod_lt_of_pos _ hb
      | cons m ms =>
        refine iteT ?_
        obtain ⟨n, hn, g1, g2, ge⟩ := last_int (ns := m :: ms) (by simp)
        have n0 := S2.n0 n hn
        have dl : ((m :: ms).dropLast).length + 1 = (m :: ms).length := by
          rw [List.length_dropLast]
          rfl
        refine ⟨_, rfl, d, _, _, _, rfl, rfl, SqL.of S2.hd, atI0, .inl ⟨rfl, _, SqL.of S2.hl⟩, l, _, _, rfl, rfl, S2.hl, g2, .inl ⟨_, rfl, ?_⟩⟩
        rw [← List.map_dropLast]
        have S3 := S2.inner hdl (ms := (m :: ms).dropLast) (fun x hx => S2.n0 x (List.dropLast_subset _ hx)) (by have := S2.nl; omega)
        generalize upd H2 l (.lst ((m :: ms).dropLast.map V.int)) = H3 at S3 ⊢
        have q0 : 0 ≤ n.fdiv b := by
          rw [Int.fdiv_eq_ediv_of_nonneg _ (by omega)]
          exact Int.ediv_nonneg n0 (by omega)
        refine ⟨_, rfl, d, _, _, _, rfl, rfl, SqL.of S3.hd, atI0, .inl ⟨rfl, _, SqL.of S3.hl⟩, _, rfl, _, rfl, _, _, rfl, rfl, fdiv_ok hbn hs, l, _, _, rfl, rfl, S3.hl, small1000 (by rw [List.length_map]; have := S2.nl; omega), ?_⟩
        have S4 := S3.inner hdl (ms := (m :: ms).dropLast ++ [n.fdiv b]) (fun x hx => by
          rcases List.mem_append.mp hx with q | q
          · exact S2.n0 x (List.dropLast_subset _ q)
          · rw [List.mem_singleton.mp q]
            exact q0) (by rw [List.length_append]; have := S2.nl; show _ + 1 ≤ 63; omega)
        rw [List.map_append, List.map_singleton] at S4
        generalize upd H3 l (.lst ((m :: ms).dropLast.map V.int ++ [V.int (n.fdiv b)])) = H4 at S4 ⊢
        refine ⟨_, rfl, _, rfl, _, _, rfl, rfl, hbn, l, DIn, _, S4.hl, DIn.of S4.n0 S4.nl, d, DOut l, _, (by rw [upd_ne hdl]; exact S4.hd), ⟨c, rfl, S4.b0, S4.b1⟩, ?_⟩
        refine k _ _ (S4.shut hdl h1 h2) ?_ ?_
        · rw [Int.fmod_eq_emod_of_nonneg _ (by omega)]
          exact Int.emod_nonneg _ hbn
        · rw [Int.fmod_eq_emod_of_nonneg _ (by omega)]
          exact Int.emod_lt_of_pos _ hb
/-! ### one of some -/
def spOf (K : PySem.W.Frag) : Sp := fun vs H Q _ => ∃ (d a : Addr) (xs : List V), vs = [.ref d, .ref a] ∧ DrawsAt H d ∧ SqL K H a xs ∧ xs ≠ [] ∧ xs.length ≤ 1000 ∧ ∀ x H', Ex H H' → x ∈ xs → Q x H'
theorem ok_law_of (T : Tx K mg) : FnOk P w K mg base CX0 2 T.law_of T.law_of_fd ["draws", "some"] (spOf K) := by
  refine T.law_of_F.ok sc_law_of (fun vs H Q E h => ?_) (fun cdv A outer s H vs Q E hr h => ?_)
  · obtain ⟨d, a, xs, rfl, _⟩ := h
    rfl
  · obtain ⟨d, a, xs, rfl, hd, ha, hn, hl, k⟩ := h
    refine ⟨_, (pss_one (ps_ret (pe_ix ix_list (pv 1) (pe_call (ok_law_any T) (hr.mono (by decide)) (by rfl) T.law_any_m T.law_any_F.kp T.law_any_b .nil pass0 (pa_cons (pv 0) (pa_cons (pe_callB call_len (by rfl) T.z_len (by decide +kernel) (pa_cons (pv 1) pa_nil)) pa_nil))) (fun _ _ => rfl)))), ?_⟩
    have lp : 0 < xs.length := List.length_pos_iff.mpr hn
    refine ⟨_, rfl, _, rfl, _, rfl, _, _, rfl, .inl ⟨xs, ha, rfl⟩, d, _, rfl, hd, by omega, Sz.lt (b := 2000) (by omega) (by omega) (by show _ ≤ _; exact Int.ofNat_le.mpr (Nat.le_trans (by decide : 2000 ≤ 2 ^ 11) (Nat.pow_le_pow_right (by decide) (by decide)))), fun v H' e v0 v1 => ?_⟩
    obtain ⟨j, rfl⟩ := Int.eq_ofNat_of_zero_le v0
    have hj : j < xs.length := by omega
    exact ⟨a, xs, _, _, rfl, rfl, exl (K := K) e ha, atI_nat (j := j) (List.getElem?_eq_getElem hj), k _ H' e (List.getElem_mem hj)⟩

end
end K24
set_option maxRecDepth 100000
set_option maxHeartbeats 4000000
namespace K24
open PySem PySem.Spec PyProof.Rows L2 M24 Pre
section
variable {P : Program} {w : World} {K : PySem.W.Frag} {mg : Str → Option Value} {base : Heap}
/-! steps of the reading, by name -/
local macro_rules | `(tactic| walk_at "hx") => `(tactic| first | assumption | (refine' DrawsAt.ex ?ha ?hb; (case hb => assumption); (case ha => walk_at "hx")) | (refine' FracAt.ex ?ha ?hb; (case hb => assumption); (case ha => walk_at "hx")) | (refine' exg ?hb ?ha; (case hb => assumption); (case ha => walk_at "hx")))
local macro_rules | `(tactic| walk_at "sz") => `(tactic| first | assumption | (refine' Sz.mul ?sa ?sb; (case sa => walk_at "sz"); (case sb => walk_at "sz")) | (refine' Sz.add ?sa ?sb; (case sa => walk_at "sz"); (case sb => walk_at "sz")) | (refine' Sz.sub ?sa ?sb; (case sa => walk_at "sz"); (case sb => walk_at "sz")) | (refine' Sz.neg ?sa; (case sa => walk_at "sz")))
local macro_rules | `(tactic| walk_at "szm") => `(tactic| ((try dsimp only); refine' Sz.mono ?sa ?sb; (case sa => walk_at "sz"); (case sb => decide)))
local macro_rules | `(tactic| walk_at "ml") => `(tactic| (refine' mul_okE ?sa ?sb ?c0 ?c1 ?c2; (case sa => walk_at "sz"); (case sb => walk_at "sz"); (case c0 => decide); (case c1 => decide); (case c2 => decide)))
local macro_rules | `(tactic| walk_at "lit") => `(tactic| (show Int.natAbs _ < 2 ^ _; decide))
local macro_rules | `(tactic| walk_at "ex") => `(tactic| first | exact ex0 | assumption | (refine' Evl.Ex.trans ?ea ?eb; (case eb => assumption); (case ea => walk_at "ex")))
local macro_rules | `(tactic| walk_at "bd") => `(tactic| (refine' Sz.mono (m := 20) ?sa ?sb; (case sb => decide); (case sa => walk_at "lit")))

/-! ### great numbers -/
theorem ten_two : (10 : Nat) ^ 126 ≤ 2 ^ 419 := by decide +kernel
theorem sz_ten {i : Nat} {t : Int} (h0 : 0 ≤ t) (h : t + 1 ≤ ((10 ^ (9 * i) : Nat) : Int)) (hi : i ≤ 14) : Sz 419 t := by
  have h2 : (10 : Nat) ^ (9 * i) ≤ 10 ^ 126 := Nat.pow_le_pow_right (by decide) (by omega)
  have h3 := Nat.le_trans h2 ten_two
  refine Nat.lt_of_lt_of_le ?_ h3
  generalize (10 : Nat) ^ (9 * i) = X at h ⊢
  omega
theorem ten_step {i : Nat} {t v : Int} (h : t + 1 ≤ ((10 ^ (9 * i) : Nat) : Int)) (hv : v < 1000000000) : t * 1000000000 + v + 1 ≤ ((10 ^ (9 * (i + 1)) : Nat) : Int) := by
  have e : (10 : Nat) ^ (9 * (i + 1)) = 10 ^ (9 * i) * 1000000000 := by
    rw [Nat.mul_add, Nat.pow_add]
  rw [e]
  generalize (10 : Nat) ^ (9 * i) = X at h ⊢
  omega
def spBig : Sp := fun vs H Q _ => ∃ (d : Addr), vs = [.ref d] ∧ DrawsAt H d ∧ ∀ v H', Ex H H' → 0 ≤ v → Sz 419 v → Q (.int v) H'
theorem ok_law_big (T : Tx K mg) : FnOk P w K mg base CX0 3 T.law_big T.law_big_fd ["draws"] spBig := by
  refine T.law_big_F.ok sc_law_big (fun vs H Q E h => ?_) (fun cdv A outer s H vs Q E hr h => ?_)
  · obtain ⟨d, rfl, _⟩ := h
    rfl
  · obtain ⟨d, rfl, hd, k⟩ := h
    refine ⟨_, (pss_cons (ps_set (i := 1) sc_law_big.nd rfl (Or.inl rfl) pe_int)
      (pss_cons (ps_for PassesOwn.never rfl (pi_range1 (by rfl) T.z_range (pa_cons (pe_call (ok_law_of T) (hr.mono (by decide)) (by rfl) T.law_of_m T.law_of_F.kp T.law_of_b .nil pass0 (pa_cons (pv 0) (pa_cons (pe_lst (pa_cons pe_int (pa_cons pe_int (pa_cons pe_int (pa_cons pe_int (pa_cons pe_int (pa_cons pe_int (pa_cons pe_int pa_nil)))))))) pa_nil))) pa_nil)) (pg_name (i := 2) sc_law_big.nd rfl (Or.inl rfl)) (pss_one (ps_set (i := 1) sc_law_big.nd rfl (Or.inl rfl) (pe_op op_add (pe_op op_mulW (pv 1) pe_int) (pe_call (ok_law_any T) (hr.mono (by decide)) (by rfl) T.law_any_m T.law_any_F.kp T.law_any_b .nil pass0 (pa_cons (pv 0) (pa_cons pe_int pa_nil)))))))
      (pss_one (ps_ret (pe_ifExp (pt_cmpR op_eq (pe_call (ok_law_any T) (hr.mono (by decide)) (by rfl) T.law_any_m T.law_any_F.kp T.law_any_b .nil pass0 (pa_cons (pv 0) (pa_cons pe_int pa_nil))) pe_int (nomark _)) (pe_op op_modN (pe_callTy call_int1 (by rfl) T.z_int (by decide +kernel) (pa_cons (pv 1) pa_nil)) pe_int) (pv 1)))))), ?_⟩
    refine ⟨_, rfl, (by show 7 ≤ sizeLine; decide), fun p np => ⟨d, p, _, rfl, hd.ex (exn np), SqL.of upd_same, by simp, by simp, fun x H1 e1 hx => ?_⟩⟩
    obtain ⟨n, hn, rfl⟩ : ∃ n : Nat, n ≤ 14 ∧ x = V.int n := by
      simp only [List.mem_cons, List.not_mem_nil, or_false] at hx
      rcases hx with h | h | h | h | h | h | h
      all_goals first | exact ⟨1, by decide, h⟩ | exact ⟨2, by decide, h⟩ | exact ⟨4, by decide, h⟩ | exact ⟨14, by decide, h⟩
    have s0 : Ex H H1 := (exn np).trans e1
    refine ⟨_, rfl, by omega, by omega, for_range (lo := 0) (fun i σ' H' => Ex H H' ∧ ∃ t v, σ' = [some (.ref d), some (.int t), v] ∧ 0 ≤ t ∧ t + 1 ≤ ((10 ^ (9 * i) : Nat) : Int)) ⟨s0, 0, none, rfl, by decide, by decide⟩ ?_ ?_⟩
    · rintro i σ' H' hi ⟨s1, t, v, rfl, t0, t1⟩
      have zt : Sz 419 t := sz_ten t0 t1 (by omega)
      have z9 : Sz 30 1000000000 := by walk_at "lit"
      refine ⟨_, rfl, _, _, rfl, rfl, (by walk_at "ml"), _, rfl, d, 1000000000, rfl, hd.ex s1, by decide, z9.mono (by decide), fun v2 H2 e2 v0 v1 => ⟨_, _, rfl, rfl, s1.trans e2, _, _, rfl, ?_, ten_step t1 v1⟩⟩
      have : 0 ≤ t * 1000000000 := Int.mul_nonneg t0 (by decide)
      omega
    · rintro σ' H' ⟨s1, t, v, rfl, t0, t1⟩
      have zt : Sz 419 t := sz_ten t0 t1 (by omega)
      refine ⟨_, rfl, d, 3, rfl, hd.ex s1, by decide, (by show Sz 9000 3; exact Sz.mono (m := 2) (by walk_at "lit") (by decide)), fun v2 H2 e2 v0 v1 => ⟨rfl, _, rfl, ite2 (fun hc => ?_) (fun hc => ?_)⟩⟩
      · have e : t.fmod 12 = t % 12 := Int.fmod_eq_emod_of_nonneg _ (by decide)
        have m0 := Int.emod_nonneg t (show (12 : Int) ≠ 0 by decide)
        have m1 := Int.emod_lt_of_pos t (show (0 : Int) < 12 by decide)
        refine ⟨_, rfl, .inl ⟨_, rfl, _, _, rfl, rfl, (by show (12 : Int) ≠ 0; decide), ?_⟩⟩
        show Q (.int (t.fmod 12)) H2
        rw [e]
        exact k _ _ (s1.trans e2) m0 (Sz.mono (m := 4) (by show _ < 16; omega) (by decide))
      · exact ⟨_, rfl, k _ _ (s1.trans e2) t0 zt⟩
def spSigned : Sp := fun vs H Q _ => ∃ (d : Addr), vs = [.ref d] ∧ DrawsAt H d ∧ ∀ v H', Ex H H' → Sz 419 v → Q (.int v) H'
theorem ok_law_signed (T : Tx K mg) : FnOk P w K mg base CX0 4 T.law_signed T.law_signed_fd ["draws"] spSigned := by
  refine T.law_signed_F.ok sc_law_signed (fun vs H Q E h => ?_) (fun cdv A outer s H vs Q E hr h => ?_)
  · obtain ⟨d, rfl, _⟩ := h
    rfl
  · obtain ⟨d, rfl, hd, k⟩ := h
    refine ⟨_, (pss_cons (ps_set (i := 1) sc_law_signed.nd rfl (Or.inl rfl) (pe_call (ok_law_big T) (hr.mono (by decide)) (by rfl) T.law_big_m T.law_big_F.kp T.law_big_b .nil pass0 (pa_cons (pv 0) pa_nil)))
      (pss_one (ps_ret (pe_ifExp (pt_cmpR op_eq (pe_call (ok_law_any T) (hr.mono (by decide)) (by rfl) T.law_any_m T.law_any_F.kp T.law_any_b .nil pass0 (pa_cons (pv 0) (pa_cons pe_int pa_nil))) pe_int (nomark _)) (pe_un un_neg (pv 1)) (pv 1))))), ?_⟩
    refine ⟨_, rfl, d, rfl, hd, fun v H1 e1 v0 vz => ⟨_, rfl, d, 2, rfl, hd.ex e1, by decide, (by show Sz 9000 2; exact Sz.mono (m := 2) (by walk_at "lit") (by decide)), fun v2 H2 e2 _ _ => ⟨rfl, _, rfl, ite2 (fun hc => ?_) (fun hc => ?_)⟩⟩⟩
    · exact ⟨_, rfl, _, rfl, k _ _ (e1.trans e2) vz.neg⟩
    · exact ⟨_, rfl, k _ _ (e1.trans e2) vz⟩
/-! ### the law's own quotient -/
def spLow : Sp := fun vs H Q _ => ∃ t b : Int, vs = [.int t, .int b] ∧ b ≠ 0 ∧ Sz 8000 t ∧ Sz 8000 b ∧ ∀ v H', Ex H H' → FracAt H' v (red t b) → Q v H'
theorem ok_law_low (T : Tx K mg) : FnOk P w K mg base CX0 1 T.law_low T.law_low_fd ["top", "bottom"] spLow := by
  refine T.law_low_F.ok sc_law_low (fun vs H Q E h => ?_) (fun cdv A outer s H vs Q E hr h => ?_)
  · obtain ⟨t, b, rfl, _⟩ := h
    rfl
  · obtain ⟨t, b, rfl, hb, ht, hs, k⟩ := h
    refine ⟨_, (pss_cons (ps_par (i := 2) (j := 3) (by rfl) sc_law_low.nd rfl rfl (by decide) rfl rfl (pa_cons (pe_callB call_abs (by rfl) T.z_abs (by decide +kernel) (pa_cons (pv 0) pa_nil)) (pa_cons (pe_callB call_abs (by rfl) T.z_abs (by decide +kernel) (pa_cons (pv 1) pa_nil)) pa_nil)) (by rfl))
      (Evl.pss_cut (ps_for PassesOwn.never rfl (pi_range1 (by rfl) T.z_range (pa_cons (pe_op op_add (pe_op op_mulW pe_int (pe_bits (pv 3))) pe_int) pa_nil)) (pg_name (i := 4) sc_law_low.nd rfl (Or.inl rfl)) (pss_cons (ps_if (pt_cmpR op_eq (pv 3) pe_int (nomark _)) (pss_one ps_break) pss_nil)
      (pss_one (ps_par (i := 2) (j := 3) (by rfl) sc_law_low.nd rfl rfl (by decide) rfl rfl (pa_cons (pv 3) (pa_cons (pe_op op_modN (pe_callTy call_int1 (by rfl) T.z_int (by decide +kernel) (pa_cons (pv 2) pa_nil)) (pv 3)) pa_nil)) (by rfl)))))
      (pss_cons (ps_set (i := 5) sc_law_low.nd rfl (Or.inl rfl) (pe_ifExp (pt_cmpR op_lt (pv 1) pe_int (nomark _)) (pe_un un_neg pe_int) pe_int))
      (pss_one (ps_ret (pe_tup (pa_cons (pe_op Pre.op_fdivG (pe_op op_mulW (pv 5) (pv 0)) (pv 2)) (pa_cons (pe_op Pre.op_fdivG (pe_op op_mulW (pv 5) (pv 1)) (pv 2)) pa_nil)))))))), ?_⟩
    have ab : ∀ x : Int, (if x < 0 then -x else x) = (x.natAbs : Int) := fun x => by
      split <;> omega
    refine ⟨_, rfl, _, rfl, _, rfl, _, rfl, _, _, rfl, ?_⟩
    rw [ab, ab]
    have hbit : (t.natAbs : Int).natAbs = t.natAbs := Int.natAbs_natCast _
    have hbit2 : (b.natAbs : Int).natAbs = b.natAbs := Int.natAbs_natCast _
    have B1 : ((b.natAbs : Nat) : Int).natAbs < 2 ^ Builtin.Int.intBits ((b.natAbs : Nat) : Int) := natAbs_lt_pow_bits _
    have B2 : Builtin.Int.intBits ((b.natAbs : Nat) : Int) ≤ 8000 := intBits_le (show ((b.natAbs : Nat) : Int).natAbs < 2 ^ 8000 by rw [hbit2]; exact hs)
    generalize hB : Builtin.Int.intBits ((b.natAbs : Nat) : Int) = B at B1 B2
    refine ⟨fun σ' H' => H' = H ∧ ∃ y v, σ' = [some (.int t), some (.int b), some (.int ((Nat.gcd t.natAbs b.natAbs : Nat) : Int)), some (.int y), v, none], ?_, ?_⟩
    · refine ⟨_, rfl, _, rfl, ?_⟩
      rw [hB]
      refine ⟨_, _, rfl, rfl, (by show CMulW 2 (B : Int); exact mul_ok (m := 2) (n := 14) (by walk_at "lit") (by show (B : Int).natAbs < 2 ^ 14; omega)), _, _, rfl, rfl, _, rfl, by show -(2 ^ 62) ≤ (2 * (B : Int) + 4); omega, by show (2 * (B : Int) + 4) < 2 ^ 62; omega,
        for_range (lo := 0) (fun i σ' H' => H' = H ∧ ∃ x y v, σ' = [some (.int t), some (.int b), some (.int x), some (.int y), v, none] ∧ Turn (Nat.gcd t.natAbs b.natAbs) b.natAbs i x y) ⟨rfl, _, _, none, rfl, ?_⟩ ?_ ?_⟩
      · have T0 := Turn.start (a := (t.natAbs : Int)) (b := (b.natAbs : Int)) (by omega) (by omega)
        rw [hbit, hbit2] at T0
        exact T0
      · rintro i σ' H' hi ⟨rfl, x, y, v, rfl, Tn⟩
        refine ⟨_, rfl, rfl, _, rfl, ite2 (fun hc => ?_) (fun hc => ?_)⟩
        · rw [decI] at hc
          have y0 := of_decide_eq_true hc
          have xg := Tn.end_ y0
          rw [xg]
          exact ⟨rfl, _, _, rfl⟩
        · rw [decI] at hc
          have y0 : y ≠ 0 := fun q => hc (decide_eq_true q)
          exact ⟨_, rfl, _, rfl, .inl ⟨_, rfl, _, rfl, _, _, rfl, rfl, y0, _, _, rfl, rfl, _, _, _, rfl, Tn.next y0⟩⟩
      · rintro σ' H' ⟨rfl, x, y, v, rfl, Tn⟩
        have y0 : y = 0 := Tn.done (B := B) (by rw [← hbit2]; exact B1) (by omega)
        have xg := Tn.end_ y0
        rw [xg]
        exact ⟨rfl, _, _, rfl⟩
    · rintro σ' H' ⟨rfl, y, v, rfl⟩
      have hg : 0 < Nat.gcd t.natAbs b.natAbs := gcd_pos hb
      have hgz : Sz 8000 ((Nat.gcd t.natAbs b.natAbs : Nat) : Int) := hs.le (by
        have := Nat.le_of_dvd (by omega) (Nat.gcd_dvd_right t.natAbs b.natAbs)
        omega)
      have z1 : Sz 1 1 := by walk_at "lit"
      have z2 : Sz 1 (-1) := by walk_at "lit"
      have lr := low_red (t := t) hb
      refine ⟨_, rfl, _, _, rfl, rfl, _, rfl, ite2 (fun hc => ?_) (fun hc => ?_)⟩
      · have hc' := of_decide_eq_true hc
        rw [if_pos hc'] at lr
        refine ⟨_, rfl, _, rfl, _, rfl, _, _, rfl, rfl, mul_ok z2 ht, _, rfl, _, _, rfl, rfl, fdiv_ok (by omega) hgz, _, rfl, _, rfl, _, _, rfl, rfl, mul_ok z2 hs, _, rfl, _, _, rfl, rfl, fdiv_ok (by omega) hgz, (by show 2 ≤ sizeLine; decide), fun p np => ?_⟩
        exact ret_frac np k (by rw [← lr])
      · have hc' : ¬ b < 0 := fun q => hc (decide_eq_true q)
        rw [if_neg hc'] at lr
        refine ⟨_, rfl, _, rfl, _, _, rfl, rfl, mul_ok z1 ht, _, rfl, _, _, rfl, rfl, fdiv_ok (by omega) hgz, _, rfl, _, rfl, _, _, rfl, rfl, mul_ok z1 hs, _, rfl, _, _, rfl, rfl, fdiv_ok (by omega) hgz, (by show 2 ≤ sizeLine; decide), fun p np => ?_⟩
        exact ret_frac np k (by rw [← lr])
/-! ### looks that find what is due -/
def spIs : Sp := fun vs H Q _ => ∃ u v f, vs = [u, v] ∧ FracAt H u f ∧ FracAt H v f ∧ Q (.bl true) H
theorem ok_law_is (T : Tx K mg) : FnOk P w K mg base CX0 1 T.law_is T.law_is_fd ["told", "due"] spIs := by
  refine T.law_is_F.ok sc_law_is (fun vs H Q E h => ?_) (fun cdv A outer s H vs Q E hr h => ?_)
  · obtain ⟨u, v, f, rfl, _⟩ := h
    rfl
  · obtain ⟨u, v, f, rfl, ⟨p, rfl, hp⟩, ⟨q, rfl, hq⟩, k⟩ := h
    refine ⟨_, (pss_cons (ps_if (PW.pt (pw_or (pt_not (pt_val (pe_callB call_isi (by rfl) T.z_isinstance (by decide +kernel) (pa_cons (pv 0) (pa_cons (pe_bltn (v := .ty "tuple") (by rfl) T.z_tuple boot_tuple rfl) pa_nil))))) (pw_or1 (pt_cmpR op_ne (pe_callB call_len (by rfl) T.z_len (by decide +kernel) (pa_cons (pv 0) pa_nil)) pe_int (nomark _))))) (pss_one (ps_ret pe_bl)) pss_nil)
      (pss_cons (ps_if (PW.pt (pw_or (pt_not (pt_val (pe_callB call_isi (by rfl) T.z_isinstance (by decide +kernel) (pa_cons (pe_ix ix_tup (pv 0) pe_int (fun _ _ => rfl)) (pa_cons (pe_bltn (v := .ty "int") (by rfl) T.z_int boot_int rfl) pa_nil))))) (pw_or (pt_not (pt_val (pe_callB call_isi (by rfl) T.z_isinstance (by decide +kernel) (pa_cons (pe_ix ix_tup (pv 0) pe_int (fun _ _ => rfl)) (pa_cons (pe_bltn (v := .ty "int") (by rfl) T.z_int boot_int rfl) pa_nil))))) (pw_or (pt_val (pe_callB call_isi (by rfl) T.z_isinstance (by decide +kernel) (pa_cons (pe_ix ix_tup (pv 0) pe_int (fun _ _ => rfl)) (pa_cons (pe_bltn (v := .ty "bool") (by rfl) T.z_bool boot_bool rfl) pa_nil)))) (pw_or1 (pt_val (pe_callB call_isi (by rfl) T.z_isinstance (by decide +kernel) (pa_cons (pe_ix ix_tup (pv 0) pe_int (fun _ _ => rfl)) (pa_cons (pe_bltn (v := .ty "bool") (by rfl) T.z_bool boot_bool rfl) pa_nil))))))))) (pss_one (ps_ret pe_bl)) pss_nil)
      (pss_one (ps_ret (pe_and (pe_cmpR op_eq (pe_ix ix_tup (pv 0) pe_int (fun _ _ => rfl)) (pe_ix ix_tup (pv 1) pe_int (fun _ _ => rfl)) (nomark _)) (pe_one (pe_cmpR op_eq (pe_ix ix_tup (pv 0) pe_int (fun _ _ => rfl)) (pe_ix ix_tup (pv 1) pe_int (fun _ _ => rfl)) (nomark _)))))))), ?_⟩
    refine ⟨_, rfl, _, _, .type "tuple", .type "tuple", true, rfl, .ty "tuple", .base (.tup hp), kit_ty (by decide +kernel), _, rfl, iteF ⟨_, rfl, _, _, rfl, .inr ⟨_, SqT.of hp, rfl⟩, rfl, _, rfl, iteF ?_⟩⟩
    refine ⟨_, rfl, p, _, _, _, rfl, rfl, SqT.of hp, rfl, _, _, .type "int", .type "int", true, rfl, .ty "int", .base (.int _), kit_ty (by decide +kernel), _, rfl, iteF ⟨_, rfl, p, _, _, _, rfl, rfl, SqT.of hp, rfl, _, _, .type "int", .type "int", true, rfl, .ty "int", .base (.int _), kit_ty (by decide +kernel), _, rfl, iteF
      ⟨_, rfl, p, _, _, _, rfl, rfl, SqT.of hp, rfl, _, _, .type "int", .type "bool", false, rfl, .ty "bool", .base (.int _), kit_ty (by decide +kernel), _, rfl, iteF ⟨_, rfl, p, _, _, _, rfl, rfl, SqT.of hp, rfl, _, _, .type "int", .type "bool", false, rfl, .ty "bool", .base (.int _), kit_ty (by decide +kernel), _, rfl, iteF ?_⟩⟩⟩⟩
    refine ⟨_, rfl, p, _, _, _, rfl, rfl, SqT.of hp, rfl, _, rfl, q, _, _, _, rfl, rfl, SqT.of hq, rfl, rfl, ?_⟩
    rw [decide_eq_true rfl]
    refine ⟨_, rfl, iteT ⟨_, rfl, p, _, _, _, rfl, rfl, SqT.of hp, rfl, _, rfl, q, _, _, _, rfl, rfl, SqT.of hq, rfl, rfl, ?_⟩⟩
    rw [decide_eq_true rfl]
    exact k
def spNum : Sp := fun vs H Q _ => ∃ n : Int, vs = [.int n, .int n] ∧ Q (.bl true) H
theorem ok_law_number_is (T : Tx K mg) : FnOk P w K mg base CX0 1 T.law_number_is T.law_number_is_fd ["told", "due"] spNum := by
  refine T.law_number_is_F.ok sc_law_number_is (fun vs H Q E h => ?_) (fun cdv A outer s H vs Q E hr h => ?_)
  · obtain ⟨n, rfl, _⟩ := h
    rfl
  · obtain ⟨n, rfl, k⟩ := h
    refine ⟨_, (pss_one (ps_ret (pe_and (pe_callB call_isi (by rfl) T.z_isinstance (by decide +kernel) (pa_cons (pv 0) (pa_cons (pe_bltn (v := .ty "int") (by rfl) T.z_int boot_int rfl) pa_nil))) (pe_and (pe_not (pe_callB call_isi (by rfl) T.z_isinstance (by decide +kernel) (pa_cons (pv 0) (pa_cons (pe_bltn (v := .ty "bool") (by rfl) T.z_bool boot_bool rfl) pa_nil)))) (pe_one (pe_cmpR op_eq (pv 0) (pv 1) (nomark _))))))), ?_⟩
    refine ⟨_, rfl, _, _, .type "int", .type "int", true, rfl, .ty "int", .base (.int _), kit_ty (by decide +kernel), _, rfl, iteT ⟨_, rfl, _, _, .type "int", .type "bool", false, rfl, .ty "bool", .base (.int _), kit_ty (by decide +kernel), _, rfl, _, rfl, iteT ⟨_, rfl, _, rfl, rfl, ?_⟩⟩⟩
    rw [decide_eq_true rfl]
    exact k
def spFlag : Sp := fun vs H Q _ => ∃ b : Bool, vs = [.bl b, .bl b] ∧ Q (.bl true) H
theorem ok_law_flag_is (T : Tx K mg) : FnOk P w K mg base CX0 1 T.law_flag_is T.law_flag_is_fd ["told", "due"] spFlag := by
  refine T.law_flag_is_F.ok sc_law_flag_is (fun vs H Q E h => ?_) (fun cdv A outer s H vs Q E hr h => ?_)
  · obtain ⟨n, rfl, _⟩ := h
    rfl
  · obtain ⟨n, rfl, k⟩ := h
    refine ⟨_, (pss_one (ps_ret (pe_and (pe_callB call_isi (by rfl) T.z_isinstance (by decide +kernel) (pa_cons (pv 0) (pa_cons (pe_bltn (v := .ty "bool") (by rfl) T.z_bool boot_bool rfl) pa_nil))) (pe_one (pe_cmpR op_eq (pv 0) (pv 1) (nomark _)))))), ?_⟩
    refine ⟨_, rfl, _, _, .type "bool", .type "bool", true, rfl, .ty "bool", .base (.bl _), kit_ty (by decide +kernel), _, rfl, iteT ⟨_, rfl, _, rfl, rfl, ?_⟩⟩
    rw [decide_eq_true rfl]
    exact k
end
end K24
set_option maxRecDepth 100000
set_option maxHeartbeats 4000000
namespace K24
open PySem PySem.Spec PyProof.Rows L2 M24 Pre
section
variable {P : Program} {w : World} {K : PySem.W.Frag} {mg : Str → Option Value} {base : Heap}
/-! steps of the reading, by name -/
local macro_rules | `(tactic| walk_at "hx") => `(tactic| first | assumption | (refine' DrawsAt.ex ?ha ?hb; (case hb => assumption); (case ha => walk_at "hx")) | (refine' FracAt.ex ?ha ?hb; (case hb => assumption); (case ha => walk_at "hx")) | (refine' exg ?hb ?ha; (case hb => assumption); (case ha => walk_at "hx")))
local macro_rules | `(tactic| walk_at "sz") => `(tactic| first | assumption | (refine' Sz.mul ?sa ?sb; (case sa => walk_at "sz"); (case sb => walk_at "sz")) | (refine' Sz.add ?sa ?sb; (case sa => walk_at "sz"); (case sb => walk_at "sz")) | (refine' Sz.sub ?sa ?sb; (case sa => walk_at "sz"); (case sb => walk_at "sz")) | (refine' Sz.neg ?sa; (case sa => walk_at "sz")))
local macro_rules | `(tactic| walk_at "szm") => `(tactic| ((try dsimp only); refine' Sz.mono ?sa ?sb; (case sa => walk_at "sz"); (case sb => decide)))
local macro_rules | `(tactic| walk_at "ml") => `(tactic| (refine' mul_okE ?sa ?sb ?c0 ?c1 ?c2; (case sa => walk_at "sz"); (case sb => walk_at "sz"); (case c0 => decide); (case c1 => decide); (case c2 => decide)))
local macro_rules | `(tactic| walk_at "lit") => `(tactic| (show Int.natAbs _ < 2 ^ _; decide))
local macro_rules | `(tactic| walk_at "ex") => `(tactic| first | exact ex0 | assumption | (refine' Evl.Ex.trans ?ea ?eb; (case eb => assumption); (case ea => walk_at "ex")))
local macro_rules | `(tactic| walk_at "bd") => `(tactic| (refine' Sz.mono (m := 20) ?sa ?sb; (case sb => decide); (case sa => walk_at "lit")))

theorem newE {H H' : Hp} {p : Addr} {o : HO} (hg : upd H p o = H') (np : H p = none) : Ex H H' := by
  rw [← hg]
  exact exn np
theorem newP {H H' : Hp} {p : Addr} {o : HO} (hg : upd H p o = H') : H' p = some o := by
  rw [← hg]
  exact upd_same
/-! ### two fractions -/
def Fine (f : Int × Int) : Prop := 0 < f.2 ∧ Sz 850 f.1 ∧ Sz 850 f.2
theorem fine_red {t b : Int} (hb : b ≠ 0) (h1 : Sz 850 t) (h2 : Sz 850 b) : Fine (red t b) := ⟨(red_low hb).pos, h1.le (red_le1 hb), h2.le (red_le2 hb)⟩
def PairAt (H : Hp) (v : V) (f g : Int × Int) : Prop := ∃ r u w, v = .ref r ∧ H r = some (.tup [u, w]) ∧ FracAt H u f ∧ FracAt H w g
def spPair : Sp := fun vs H Q _ => ∃ (d : Addr), vs = [.ref d] ∧ DrawsAt H d ∧ ∀ v H' f g, Ex H H' → PairAt H' v f g → Fine f → Fine g → Q v H'
theorem ok_law_pair (T : Tx K mg) : FnOk P w K mg base CX0 5 T.law_pair T.law_pair_fd ["draws"] spPair := by
  refine T.law_pair_F.ok sc_law_pair (fun vs H Q E h => ?_) (fun cdv A outer s H vs Q E hr h => ?_)
  · obtain ⟨d, rfl, _⟩ := h
    rfl
  · obtain ⟨d, rfl, hd, k⟩ := h
    refine ⟨_, (pss_cons (ps_set (i := 1) sc_law_pair.nd rfl (Or.inl rfl) (pe_call (ok_law_any T) (hr.mono (by decide)) (by rfl) T.law_any_m T.law_any_F.kp T.law_any_b .nil pass0 (pa_cons (pv 0) (pa_cons pe_int pa_nil))))
      (pss_cons (ps_set (i := 2) sc_law_pair.nd rfl (Or.inl rfl) (pe_call (ok_law_low T) (hr.mono (by decide)) (by rfl) T.law_low_m T.law_low_F.kp T.law_low_b .nil pass0 (pa_cons (pe_call (ok_law_signed T) (hr.mono (by decide)) (by rfl) T.law_signed_m T.law_signed_F.kp T.law_signed_b .nil pass0 (pa_cons (pv 0) pa_nil)) (pa_cons (pe_op op_add pe_int (pe_call (ok_law_big T) (hr.mono (by decide)) (by rfl) T.law_big_m T.law_big_F.kp T.law_big_b .nil pass0 (pa_cons (pv 0) pa_nil))) pa_nil))))
      (pss_cons (ps_set (i := 3) sc_law_pair.nd rfl (Or.inl rfl) (pe_op op_add pe_int (pe_call (ok_law_big T) (hr.mono (by decide)) (by rfl) T.law_big_m T.law_big_F.kp T.law_big_b .nil pass0 (pa_cons (pv 0) pa_nil))))
      (pss_cons (ps_if (pt_cmpR op_eq (pv 1) pe_int (nomark _)) (pss_one (ps_ret (pe_tup (pa_cons (pv 2) (pa_cons (pv 2) pa_nil))))) pss_nil)
      (pss_cons (ps_if (pt_cmpR op_eq (pv 1) pe_int (nomark _)) (pss_one (ps_ret (pe_tup (pa_cons (pv 2) (pa_cons (pe_tup (pa_cons (pe_un un_neg (pe_ix ix_tup (pv 2) pe_int (fun _ _ => rfl))) (pa_cons (pe_ix ix_tup (pv 2) pe_int (fun _ _ => rfl)) pa_nil))) pa_nil))))) pss_nil)
      (pss_cons (ps_if (pt_cmpR op_eq (pv 1) pe_int (nomark _)) (pss_one (ps_ret (pe_tup (pa_cons (pv 2) (pa_cons (pe_call (ok_law_low T) (hr.mono (by decide)) (by rfl) T.law_low_m T.law_low_F.kp T.law_low_b .nil pass0 (pa_cons (pe_op op_add (pe_op op_mulW (pe_ix ix_tup (pv 2) pe_int (fun _ _ => rfl)) (pv 3)) (pe_call (ok_law_of T) (hr.mono (by decide)) (by rfl) T.law_of_m T.law_of_F.kp T.law_of_b .nil pass0 (pa_cons (pv 0) (pa_cons (pe_lst (pa_cons pe_int (pa_cons (pe_un un_neg pe_int) pa_nil))) pa_nil)))) (pa_cons (pe_op op_mulW (pe_ix ix_tup (pv 2) pe_int (fun _ _ => rfl)) (pv 3)) pa_nil))) pa_nil))))) pss_nil)
      (pss_cons (ps_if (pt_cmpR op_eq (pv 1) pe_int (nomark _)) (pss_one (ps_ret (pe_tup (pa_cons (pv 2) (pa_cons (pe_call (ok_law_low T) (hr.mono (by decide)) (by rfl) T.law_low_m T.law_low_F.kp T.law_low_b .nil pass0 (pa_cons (pe_call (ok_law_signed T) (hr.mono (by decide)) (by rfl) T.law_signed_m T.law_signed_F.kp T.law_signed_b .nil pass0 (pa_cons (pv 0) pa_nil)) (pa_cons (pe_ix ix_tup (pv 2) pe_int (fun _ _ => rfl)) pa_nil))) pa_nil))))) pss_nil)
      (pss_cons (ps_if (PW.pt (pw_and (pt_cmpR op_eq (pv 1) pe_int (nomark _)) (pw_and1 (pt_cmpR op_ne (pe_ix ix_tup (pv 2) pe_int (fun _ _ => rfl)) pe_int (nomark _))))) (pss_one (ps_ret (pe_tup (pa_cons (pv 2) (pa_cons (pe_call (ok_law_low T) (hr.mono (by decide)) (by rfl) T.law_low_m T.law_low_F.kp T.law_low_b .nil pass0 (pa_cons (pe_ix ix_tup (pv 2) pe_int (fun _ _ => rfl)) (pa_cons (pe_ix ix_tup (pv 2) pe_int (fun _ _ => rfl)) pa_nil))) pa_nil))))) pss_nil)
      (pss_one (ps_ret (pe_tup (pa_cons (pv 2) (pa_cons (pe_call (ok_law_low T) (hr.mono (by decide)) (by rfl) T.law_low_m T.law_low_F.kp T.law_low_b .nil pass0 (pa_cons (pe_call (ok_law_signed T) (hr.mono (by decide)) (by rfl) T.law_signed_m T.law_signed_F.kp T.law_signed_b .nil pass0 (pa_cons (pv 0) pa_nil)) (pa_cons (pv 3) pa_nil))) pa_nil))))))))))))), ?_⟩
    have z1 : Sz 1 1 := by walk_at "lit"
    refine ⟨_, rfl, d, 8, rfl, hd, by decide, (by walk_at "bd"), fun form H1 e1 f0 f1 => ⟨_, rfl, d, rfl, (by walk_at "hx"), fun t H2 e2 tz => ⟨_, rfl, d, rfl, (by walk_at "hx"), fun b H3 e3 b0 bz => ⟨_, _, rfl, rfl, t, 1 + b, rfl, by omega, (by walk_at "szm"), (by walk_at "szm"), fun u H4 e4 hu => ⟨_, rfl, d, rfl, (by walk_at "hx"), fun m H5 e5 m0 mz => ⟨_, _, rfl, rfl, ?_⟩⟩⟩⟩⟩⟩
    have bz1 : Sz 420 (1 + b) := by walk_at "szm"
    have mz1 : Sz 420 (1 + m) := by walk_at "szm"
    have hb : 1 + b ≠ 0 := by omega
    have hm : 1 + m ≠ 0 := by omega
    have F := fine_red hb (tz.mono (by decide)) (bz1.mono (by decide))
    have o1 : Sz 419 (red t (1 + b)).1 := tz.le (red_le1 hb)
    have o2 : Sz 420 (red t (1 + b)).2 := bz1.le (red_le2 hb)
    have op : 0 < (red t (1 + b)).2 := F.1
    generalize red t (1 + b) = f at hu F o1 o2 op
    have hu5 : FracAt H5 u f := by walk_at "hx"
    have e05 : Ex H H5 := by walk_at "ex"
    obtain ⟨p, rfl, hp⟩ := id hu5
    refine ⟨_, rfl, rfl, _, rfl, ite2 (fun _ => ?_) (fun _ => ?_)⟩
    · exact ⟨_, rfl, _, rfl, (by show 2 ≤ sizeLine; decide), fun r nr => k _ _ f f (e05.trans (exn nr)) ⟨r, _, _, rfl, upd_same, hu5.ex (exn nr), hu5.ex (exn nr)⟩ F F⟩
    refine ⟨_, rfl, rfl, _, rfl, ite2 (fun _ => ?_) (fun _ => ?_)⟩
    · refine ⟨_, rfl, _, rfl, p, _, _, _, rfl, rfl, SqT.of hp, rfl, _, rfl, _, rfl, p, _, _, _, rfl, rfl, SqT.of hp, rfl, (by show 2 ≤ sizeLine; decide), fun q nq => ?_⟩
      generalize hg : upd H5 q _ = H6
      have e6 := newE hg nq
      have hq := newP hg
      refine ⟨(by show 2 ≤ sizeLine; decide), fun r nr => k _ _ f (-f.1, f.2) ((e05.trans e6).trans (exn nr)) ⟨r, _, _, rfl, upd_same, (hu5.ex e6).ex (exn nr), FracAt.ex ⟨q, rfl, hq⟩ (exn nr)⟩ F ⟨F.1, F.2.1.neg, F.2.2⟩⟩
    refine ⟨_, rfl, rfl, _, rfl, ite2 (fun _ => ?_) (fun _ => ?_)⟩
    · refine ⟨_, rfl, _, rfl, p, _, _, _, rfl, rfl, SqT.of hp, rfl, _, rfl, _, _, rfl, rfl, mul_ok o1 mz1, _, rfl, _, rfl, (by show 2 ≤ sizeLine; decide), fun q nq => ?_⟩
      generalize hg : upd H5 q _ = H6
      have e6 := newE hg nq
      have hq := newP hg
      refine ⟨d, q, _, rfl, (by walk_at "hx"), SqL.of hq, by simp, by simp, fun x H7 e7 hx => ?_⟩
      obtain ⟨c, hc, rfl⟩ : ∃ c : Int, Sz 1 c ∧ x = V.int c := by
        simp only [List.mem_cons, List.not_mem_nil, or_false] at hx
        rcases hx with h | h
        · exact ⟨1, by walk_at "lit", h⟩
        · exact ⟨-1, by walk_at "lit", h⟩
      have hp7 := e7 _ _ (e6 _ _ hp)
      have pz : Sz 841 (f.1 * (1 + m) + c) := by walk_at "szm"
      have qz : Sz 841 (f.2 * (1 + m)) := by walk_at "szm"
      have hn : f.2 * (1 + m) ≠ 0 := by
        have := Int.mul_pos op (show 0 < 1 + m by omega)
        omega
      refine ⟨_, _, rfl, rfl, _, rfl, p, _, _, _, rfl, rfl, SqT.of hp7, rfl, _, rfl, _, _, rfl, rfl, mul_ok o2 mz1, _, _, rfl, hn, pz.mono (by decide), qz.mono (by decide), fun w H8 e8 hw => ⟨(by show 2 ≤ sizeLine; decide), fun r nr => ?_⟩⟩
      have hu8 : FracAt H8 (V.ref p) f := by walk_at "hx"
      have e08 : Ex H H8 := by walk_at "ex"
      exact k _ _ f _ (e08.trans (exn nr)) ⟨r, _, _, rfl, upd_same, hu8.ex (exn nr), hw.ex (exn nr)⟩ F (fine_red hn (pz.mono (by decide)) (qz.mono (by decide)))
    have fin3 : ∀ b2, b2 ≠ 0 → Sz 420 b2 → ∀ t2 w H8, Ex H5 H8 → Sz 420 t2 → FracAt H8 w (red t2 b2) → ∀ r, H8 r = none → Q (.ref r) (upd H8 r (.tup [.ref p, w])) := fun b2 h0 bz2 t2 w H8 e8 tz2 hw r nr =>
      k _ _ f _ ((e05.trans e8).trans (exn nr)) ⟨r, _, _, rfl, upd_same, (hu5.ex e8).ex (exn nr), hw.ex (exn nr)⟩ F (fine_red h0 (tz2.mono (by decide)) (bz2.mono (by decide)))
    have d5 : DrawsAt H5 d := hd.ex e05
    refine ⟨_, rfl, rfl, _, rfl, ite2 (fun _ => ?_) (fun _ => ?_)⟩
    · refine ⟨_, rfl, _, rfl, d, rfl, d5, fun t2 H6 e6 tz2 => ?_⟩
      have hp6 := e6 _ _ hp
      exact ⟨_, rfl, p, _, _, _, rfl, rfl, SqT.of hp6, rfl, t2, f.2, rfl, by omega, tz2.mono (by decide), o2.mono (by decide), fun w H7 e7 hw => ⟨(by show 2 ≤ sizeLine; decide), fun r nr => fin3 f.2 (by omega) o2 t2 w H7 (e6.trans e7) (tz2.mono (by decide)) hw r nr⟩⟩
    refine ⟨_, rfl, rfl, _, rfl, ite2 (fun _ => ?_) (fun _ => iteF ?_)⟩
    · refine ⟨_, rfl, p, _, _, _, rfl, rfl, SqT.of hp, rfl, rfl, _, rfl, ite2 (fun hc => ?_) (fun _ => ?_)⟩
      · rw [decI] at hc
        have hn : f.1 ≠ 0 := fun q => by simp [q] at hc
        exact ⟨_, rfl, _, rfl, p, _, _, _, rfl, rfl, SqT.of hp, rfl, _, rfl, p, _, _, _, rfl, rfl, SqT.of hp, rfl, f.2, f.1, rfl, hn, o2.mono (by decide), o1.mono (by decide), fun w H7 e7 hw => ⟨(by show 2 ≤ sizeLine; decide), fun r nr => fin3 f.1 hn (o1.mono (by decide)) f.2 w H7 e7 o2 hw r nr⟩⟩
      · exact ⟨_, rfl, _, rfl, d, rfl, d5, fun t2 H6 e6 tz2 => ⟨_, rfl, t2, 1 + m, rfl, hm, tz2.mono (by decide), mz1.mono (by decide), fun w H7 e7 hw => ⟨(by show 2 ≤ sizeLine; decide), fun r nr => fin3 (1 + m) hm mz1 t2 w H7 (e6.trans e7) (tz2.mono (by decide)) hw r nr⟩⟩⟩
    · exact ⟨_, rfl, _, rfl, d, rfl, d5, fun t2 H6 e6 tz2 => ⟨_, rfl, t2, 1 + m, rfl, hm, tz2.mono (by decide), mz1.mono (by decide), fun w H7 e7 hw => ⟨(by show 2 ≤ sizeLine; decide), fun r nr => fin3 (1 + m) hm mz1 t2 w H7 (e6.trans e7) (tz2.mono (by decide)) hw r nr⟩⟩⟩
/-! ### a quotient of any two -/
def spYes : Sp := fun vs H Q _ => ∃ (d : Addr), vs = [.ref d] ∧ DrawsAt H d ∧ ∀ H', Ex H H' → Q (.bl true) H'
theorem ok_law_quotient (T : Tx K mg) : FnOk P w K mg base CX0 5 T.law_quotient T.law_quotient_fd ["draws"] spYes := by
  refine T.law_quotient_F.ok sc_law_quotient (fun vs H Q E h => ?_) (fun cdv A outer s H vs Q E hr h => ?_)
  · obtain ⟨d, rfl, _⟩ := h
    rfl
  · obtain ⟨d, rfl, hd, k⟩ := h
    refine ⟨_, (pss_cons (ps_par3 (i := 1) (j := 2) (l := 3) (by rfl) sc_law_quotient.nd rfl rfl rfl (by decide) (by decide) (by decide) rfl rfl rfl (pa_cons (pe_op op_add pe_int (pe_call (ok_law_big T) (hr.mono (by decide)) (by rfl) T.law_big_m T.law_big_F.kp T.law_big_b .nil pass0 (pa_cons (pv 0) pa_nil))) (pa_cons (pe_call (ok_law_signed T) (hr.mono (by decide)) (by rfl) T.law_signed_m T.law_signed_F.kp T.law_signed_b .nil pass0 (pa_cons (pv 0) pa_nil)) (pa_cons (pe_op op_add pe_int (pe_call (ok_law_big T) (hr.mono (by decide)) (by rfl) T.law_big_m T.law_big_F.kp T.law_big_b .nil pass0 (pa_cons (pv 0) pa_nil))) pa_nil))) (by rfl))
      (Evl.pss_cut (ps_set (i := 3) sc_law_quotient.nd rfl (Or.inl rfl) (pe_ifExp (pt_cmpR op_eq (pe_call (ok_law_any T) (hr.mono (by decide)) (by rfl) T.law_any_m T.law_any_F.kp T.law_any_b .nil pass0 (pa_cons (pv 0) (pa_cons pe_int pa_nil))) pe_int (nomark _)) (pe_un un_neg (pv 3)) (pv 3)))
      (pss_cons (ps_set (i := 4) sc_law_quotient.nd rfl (Or.inl rfl) (pe_call (ok_law_low T) (hr.mono (by decide)) (by rfl) T.law_low_m T.law_low_F.kp T.law_low_b .nil pass0 (pa_cons (pv 2) (pa_cons (pv 3) pa_nil))))
      (pss_cons (ps_set (i := 5) sc_law_quotient.nd rfl (Or.inl rfl) (pe_call (ok_fraction T) (hr.mono (by decide)) (by rfl) T.fraction_m T.fraction_F.kp T.fraction_b .nil pass0 (pa_cons (pe_op op_mulW (pv 2) (pv 1)) (pa_cons (pe_op op_mulW (pv 3) (pv 1)) pa_nil))))
      (pss_one (ps_ret (pe_and (pe_call (ok_law_is T) (hr.mono (by decide)) (by rfl) T.law_is_m T.law_is_F.kp T.law_is_b .nil pass0 (pa_cons (pv 5) (pa_cons (pv 4) pa_nil))) (pe_one (pe_call (ok_law_is T) (hr.mono (by decide)) (by rfl) T.law_is_m T.law_is_F.kp T.law_is_b .nil pass0 (pa_cons (Pre.pe_callK0 (ok_fraction T) (hr.mono (by decide)) (by rfl) T.fraction_m T.fraction_F.kp (kb_fraction_bottom_top T.fraction_F) pass0 (pk_cons (pe_op op_mulW (pv 3) (pv 1)) (pk_cons (pe_op op_mulW (pv 2) (pv 1)) pk_nil))) (pa_cons (pv 4) pa_nil))))))))))), ?_⟩
    have z1 : Sz 1 1 := by walk_at "lit"
    refine ⟨_, rfl, d, rfl, hd, fun c H1 e1 c0 cz => ⟨_, _, rfl, rfl, _, rfl, d, rfl, (by walk_at "hx"), fun t H2 e2 tz => ⟨_, rfl, d, rfl, (by walk_at "hx"), fun b H3 e3 b0 bz => ⟨_, _, rfl, rfl, _, _, _, rfl,
      fun σ' H' => Ex H3 H' ∧ ∃ y, y ≠ 0 ∧ Sz 420 y ∧ σ' = [some (.ref d), some (.int (1 + c)), some (.int t), some (.int y), none, none], ?_, ?_⟩⟩⟩⟩
    · have bz1 : Sz 420 (1 + b) := by walk_at "szm"
      refine ⟨_, rfl, d, 2, rfl, (by walk_at "hx"), by decide, (by walk_at "bd"), fun v H4 e4 _ _ => ⟨rfl, _, rfl, ite2 (fun _ => ?_) (fun _ => ?_)⟩⟩
      · exact ⟨_, rfl, _, rfl, e4, _, by omega, bz1.neg, rfl⟩
      · exact ⟨_, rfl, e4, _, by omega, bz1, rfl⟩
    · rintro σ' H4 ⟨e4, y, y0, yz, rfl⟩
      have cz1 : Sz 420 (1 + c) := by walk_at "szm"
      have hc : 1 + c ≠ 0 := by omega
      have rs := red_scale (t := t) y0 hc
      have yc : y * (1 + c) ≠ 0 := Int.mul_ne_zero y0 hc
      refine ⟨_, rfl, _, rfl, t, y, rfl, y0, tz.mono (by decide), yz.mono (by decide), fun u H5 e5 hu => ⟨_, rfl, _, rfl, _, _, rfl, rfl, mul_ok tz cz1, _, rfl, _, rfl, _, _, rfl, rfl, mul_ok yz cz1, _, _, rfl, yc, (by walk_at "szm"), fun v H6 e6 hv => ?_⟩⟩
      have hv' : FracAt H6 v (red t y) := by
        rw [← rs]
        exact hv
      refine ⟨_, rfl, _, rfl, _, _, _, rfl, hv', hu.ex e6, _, rfl, iteT ⟨_, rfl, _, rfl, _, _, rfl, rfl, mul_ok yz cz1, _, rfl, _, rfl, _, _, rfl, rfl, mul_ok tz cz1, rfl, rfl, _, _, rfl, yc, (by walk_at "szm"), fun v2 H7 e7 hv2 => ?_⟩⟩
      have hv2' : FracAt H7 v2 (red t y) := by
        rw [← rs]
        exact hv2
      exact ⟨_, rfl, _, _, _, rfl, hv2', (hu.ex e6).ex e7, k _ (by walk_at "ex")⟩
/-! ### sums and products, step by step -/
theorem ok_law_steps (T : Tx K mg) : FnOk P w K mg base CX0 3 T.law_steps T.law_steps_fd ["draws"] spYes := by
  refine T.law_steps_F.ok sc_law_steps (fun vs H Q E h => ?_) (fun cdv A outer s H vs Q E hr h => ?_)
  · obtain ⟨d, rfl, _⟩ := h
    rfl
  · obtain ⟨d, rfl, hd, k⟩ := h
    refine ⟨_, (pss_cons (ps_par (i := 1) (j := 2) (by rfl) sc_law_steps.nd rfl rfl (by decide) rfl rfl (pa_cons (pe_op op_add pe_int (pe_call (ok_law_any T) (hr.mono (by decide)) (by rfl) T.law_any_m T.law_any_F.kp T.law_any_b .nil pass0 (pa_cons (pv 0) (pa_cons pe_int pa_nil)))) (pa_cons (pe_call (ok_law_of T) (hr.mono (by decide)) (by rfl) T.law_of_m T.law_of_F.kp T.law_of_b .nil pass0 (pa_cons (pv 0) (pa_cons (pe_lst (pa_cons pe_int (pa_cons pe_int (pa_cons pe_int pa_nil)))) pa_nil))) pa_nil)) (by rfl))
      (pss_cons (ps_asg (pe_tup (pa_cons (pe_tup (pa_cons pe_int (pa_cons pe_int pa_nil))) (pa_cons (pe_tup (pa_cons pe_int (pa_cons pe_int pa_nil))) pa_nil))) (pg_tup rfl (pgs_cons (pg_name (i := 3) sc_law_steps.nd rfl (Or.inl rfl)) (pgs_cons (pg_name (i := 4) sc_law_steps.nd rfl (Or.inl rfl)) pgs_nil))))
      (pss_cons (ps_for PassesOwn.never rfl (pi_range2 (by rfl) T.z_range (pa_cons (pv 1) (pa_cons (pe_op op_add (pv 1) (pv 2)) pa_nil))) (pg_name (i := 5) sc_law_steps.nd rfl (Or.inl rfl)) (pss_cons (ps_set (i := 3) sc_law_steps.nd rfl (Or.inl rfl) (pe_call (ok_added T) (hr.mono (by decide)) (by rfl) T.added_m T.added_F.kp T.added_b .nil pass0 (pa_cons (pv 3) (pa_cons (pe_tup (pa_cons pe_int (pa_cons (pe_op op_mulW (pv 5) (pe_op op_add (pv 5) pe_int)) pa_nil))) pa_nil))))
      (pss_cons (ps_set (i := 4) sc_law_steps.nd rfl (Or.inl rfl) (pe_call (ok_multiplied T) (hr.mono (by decide)) (by rfl) T.multiplied_m T.multiplied_F.kp T.multiplied_b .nil pass0 (pa_cons (pe_tup (pa_cons (pe_op op_add (pv 5) pe_int) (pa_cons (pv 5) pa_nil))) (pa_cons (pv 4) pa_nil))))
      (pss_one (ps_if (PW.pt (pw_or (pt_not (pt_val (pe_call (ok_law_is T) (hr.mono (by decide)) (by rfl) T.law_is_m T.law_is_F.kp T.law_is_b .nil pass0 (pa_cons (pv 3) (pa_cons (pe_call (ok_law_low T) (hr.mono (by decide)) (by rfl) T.law_low_m T.law_low_F.kp T.law_low_b .nil pass0 (pa_cons (pe_op op_sub (pe_op op_add (pv 5) pe_int) (pv 1)) (pa_cons (pe_op op_mulW (pv 1) (pe_op op_add (pv 5) pe_int)) pa_nil))) pa_nil))))) (pw_or1 (pt_not (pt_val (pe_call (ok_law_is T) (hr.mono (by decide)) (by rfl) T.law_is_m T.law_is_F.kp T.law_is_b .nil pass0 (pa_cons (pv 4) (pa_cons (pe_call (ok_law_low T) (hr.mono (by decide)) (by rfl) T.law_low_m T.law_low_F.kp T.law_low_b .nil pass0 (pa_cons (pe_op op_add (pv 5) pe_int) (pa_cons (pv 1) pa_nil))) pa_nil)))))))) (pss_one (ps_ret pe_bl)) pss_nil)))))
      (pss_one (ps_ret pe_bl))))), ?_⟩
    refine ⟨_, rfl, d, 1000, rfl, hd, by decide, (by walk_at "bd"), fun f H1 e1 f0 f1 => ⟨_, _, rfl, rfl, _, rfl, (by show 3 ≤ sizeLine; decide), fun p np => ?_⟩⟩
    generalize hg : upd H1 p _ = H2
    have e2 := newE hg np
    have hp := newP hg
    refine ⟨d, p, _, rfl, (by walk_at "hx"), SqL.of hp, by simp, by simp, fun x H3 e3 hx => ?_⟩
    obtain ⟨n, hn, rfl⟩ : ∃ n : Nat, n ≤ 40 ∧ x = V.int n := by
      simp only [List.mem_cons, List.not_mem_nil, or_false] at hx
      rcases hx with h | h | h
      · exact ⟨1, by decide, h⟩
      · exact ⟨7, by decide, h⟩
      · exact ⟨40, by decide, h⟩
    refine ⟨_, _, rfl, (by show 2 ≤ sizeLine; decide), fun q nq => ?_⟩
    generalize hg4 : upd H3 q _ = H4
    have e4 := newE hg4 nq
    have hq := newP hg4
    refine ⟨(by show 2 ≤ sizeLine; decide), fun r nr => ?_⟩
    generalize hg5 : upd H4 r _ = H5'
    have e5 := newE hg5 nr
    have hr5 := newP hg5
    have hq5 := e5 _ _ hq
    refine ⟨(by show 2 ≤ sizeLine; decide), fun z nz => ?_⟩
    generalize hg6 : upd H5' z _ = H5
    have e6 := newE hg6 nz
    have hz5 := newP hg6
    replace hq5 := e6 _ _ hq5
    replace hr5 := e6 _ _ hr5
    have E5 : Ex H H5 := by walk_at "ex"
    have sm : ∀ x : Int, -4194304 < x → x < 4194304 → Sz 22 x := fun x a b => by
      show x.natAbs < 4194304
      omega
    have hr0 : red 0 ((1 + f) * (1 + f + 0)) = (0, 1) := Low.red (f := (0, 1)) ⟨by show (0 : Int) < 1; decide, by simp⟩ (by
      have := Int.mul_pos (show 0 < 1 + f by omega) (show 0 < 1 + f + 0 by omega)
      omega) (by simp)
    have hp0 : red (1 + f + 0) (1 + f) = (1, 1) := Low.red (f := (1, 1)) ⟨by show (0 : Int) < 1; decide, by simp⟩ (by omega) (by show 1 * (1 + f) = (1 + f + 0) * 1; omega)
    refine ⟨z, _, rfl, SqT.of hz5, rfl, _, _, rfl, _, _, rfl, rfl, _, rfl, _, rfl, _, rfl, _, _, rfl, rfl, 1 + f, 1 + f + n, rfl, ⟨by omega, by omega, by omega, by omega⟩, for_range (lo := 1 + f) (fun i σ' H' => Ex H H' ∧ ∃ u v w, σ' = [some (.ref d), some (.int (1 + f)), some (.int n), some u, some v, w] ∧ FracAt H' u (red i ((1 + f) * (1 + f + i))) ∧ FracAt H' v (red (1 + f + i) (1 + f))) ⟨E5, _, _, none, rfl, ?_, ?_⟩ ?_ ?_⟩
    · rw [show ((0 : Nat) : Int) = 0 from rfl, hr0]
      exact ⟨q, rfl, hq5⟩
    · rw [show ((0 : Nat) : Int) = 0 from rfl, hp0]
      exact ⟨r, rfl, hr5⟩
    · rintro i σ' H6 hi ⟨E6, u, v, w, rfl, hu, hv⟩
      have hi40 : i < 40 := by omega
      have mulp : ∀ a b : Int, 0 < a → a ≤ 2000 → 0 < b → b ≤ 2000 → Sz 22 (a * b) ∧ a * b ≠ 0 := fun a b a0 a1 b0 b1 => by
        have p0 := Int.mul_pos a0 b0
        have p1 : a * b ≤ 2000 * 2000 := Int.mul_le_mul a1 b1 (by omega) (by decide)
        exact ⟨sm _ (by omega) (by omega), by omega⟩
      obtain ⟨g1, g2⟩ := mulp (1 + f) (1 + f + i) (by omega) (by omega) (by omega) (by omega)
      obtain ⟨g3, g4⟩ := mulp (1 + f) (1 + f + i + 1) (by omega) (by omega) (by omega) (by omega)
      obtain ⟨g5, g6⟩ := mulp (1 + f + i) (1 + f + i + 1) (by omega) (by omega) (by omega) (by omega)
      have zi : Sz 22 (i : Int) := sm _ (by omega) (by omega)
      have zf : Sz 22 (1 + f) := sm _ (by omega) (by omega)
      have za : Sz 22 (1 + f + i) := sm _ (by omega) (by omega)
      have za1 : Sz 22 (1 + f + i + 1) := sm _ (by omega) (by omega)
      have hf : 1 + f ≠ 0 := by omega
      have l1 := red_low (t := (i : Int)) g2
      have l2 := red_low (t := 1 + f + (i : Int)) hf
      have s1 : Sz 22 (red (i : Int) ((1 + f) * (1 + f + i))).1 := zi.le (red_le1 g2)
      have s2 : Sz 22 (red (i : Int) ((1 + f) * (1 + f + i))).2 := g1.le (red_le2 g2)
      have s3 : Sz 22 (red (1 + f + (i : Int)) (1 + f)).1 := za.le (red_le1 hf)
      have s4 : Sz 22 (red (1 + f + (i : Int)) (1 + f)).2 := zf.le (red_le2 hf)
      have st1 := step_sum (f := 1 + f) (m := i) (by omega) (by omega)
      have st2 := step_product (f := 1 + f) (m := i) (by omega) (by omega)
      have n1 : (red (i : Int) ((1 + f) * (1 + f + i))).2 * ((1 + f + i) * (1 + f + i + 1)) ≠ 0 := Int.mul_ne_zero (by have := l1.pos; omega) g6
      have n2 : (1 + f + (i : Int)) * (red (1 + f + (i : Int)) (1 + f)).2 ≠ 0 := Int.mul_ne_zero (by omega) (by have := l2.pos; omega)
      have c1 : ((i + 1 : Nat) : Int) = (i : Int) + 1 := by omega
      have c2 : 1 + f + ((i : Int) + 1) = 1 + f + i + 1 := by omega
      have c3 : 1 + f + (i : Int) + 1 - (1 + f) = i + 1 := by omega
      refine ⟨_, rfl, _, rfl, _, rfl, _, _, rfl, rfl, _, _, rfl, rfl, mul_ok za za1, (by show 2 ≤ sizeLine; decide), fun x nx => ?_⟩
      generalize hg7 : upd H6 x _ = H7
      have e7 := newE hg7 nx
      have hx7 := newP hg7
      refine ⟨u, .ref x, _, (1, (1 + f + i) * (1 + f + i + 1)), rfl, (by walk_at "hx"), ⟨x, rfl, hx7⟩, s1.mono (by decide), s2.mono (by decide), (show Sz 4000 1 by walk_at "bd"), g5.mono (by decide), n1, fun u' H8 e8 hu8 => ?_⟩
      replace hu8 : FracAt H8 u' (red ((i : Int) + 1) ((1 + f) * (1 + f + i + 1))) := by
        rw [← st1]
        exact hu8
      refine ⟨_, rfl, _, _, rfl, rfl, _, rfl, (by show 2 ≤ sizeLine; decide), fun y ny => ?_⟩
      generalize hg9 : upd H8 y _ = H9
      have e9 := newE hg9 ny
      have hy9 := newP hg9
      refine ⟨_, rfl, .ref y, v, (1 + f + i + 1, 1 + f + i), _, rfl, ⟨y, rfl, hy9⟩, (by walk_at "hx"), za1.mono (by decide), za.mono (by decide), s3.mono (by decide), s4.mono (by decide), n2, fun v' H10 e10 hv10 => ?_⟩
      replace hv10 : FracAt H10 v' (red (1 + f + i + 1) (1 + f)) := by
        rw [← st2]
        exact hv10
      refine ⟨_, rfl, _, rfl, _, _, rfl, rfl, _, rfl, _, _, rfl, rfl, _, rfl, _, rfl, _, _, rfl, rfl, _, _, rfl, rfl, mul_ok zf za1, _, _, rfl, g4, (by rw [c3]; exact (sm _ (by omega) (by omega)).mono (by decide)), g3.mono (by decide), fun w1 H11 e11 hw1 => ?_⟩
      rw [c3] at hw1
      refine ⟨_, _, _, rfl, (by walk_at "hx"), hw1, true, rfl, iteF ?_⟩
      refine ⟨_, rfl, _, rfl, _, _, rfl, rfl, _, rfl, _, _, rfl, hf, za1.mono (by decide), zf.mono (by decide), fun w2 H12 e12 hw2 => ⟨_, _, _, rfl, (by walk_at "hx"), hw2, true, rfl, iteF ?_⟩⟩
      refine ⟨by walk_at "ex", u', v', _, rfl, ?_, ?_⟩
      · rw [c1, c2]
        exact ((hu8.ex e9).ex e10).ex (e11.trans e12)
      · rw [c1, c2]
        exact hv10.ex (e11.trans e12)
    · rintro σ' H6 ⟨E6, u, v, w, rfl, hu, hv⟩
      exact k _ E6
end
end K24
set_option maxRecDepth 100000
set_option maxHeartbeats 4000000
namespace K24
open PySem PySem.Spec PyProof.Rows L2 M24 Pre
section
variable {P : Program} {w : World} {K : PySem.W.Frag} {mg : Str → Option Value} {base : Heap}
/-! steps of the reading, by name -/
local macro_rules | `(tactic| walk_at "hx") => `(tactic| first | assumption | (refine' DrawsAt.ex ?ha ?hb; (case hb => assumption); (case ha => walk_at "hx")) | (refine' FracAt.ex ?ha ?hb; (case hb => assumption); (case ha => walk_at "hx")) | (refine' exg ?hb ?ha; (case hb => assumption); (case ha => walk_at "hx")))
local macro_rules | `(tactic| walk_at "sz") => `(tactic| first | assumption | (refine' Sz.mul ?sa ?sb; (case sa => walk_at "sz"); (case sb => walk_at "sz")) | (refine' Sz.add ?sa ?sb; (case sa => walk_at "sz"); (case sb => walk_at "sz")) | (refine' Sz.sub ?sa ?sb; (case sa => walk_at "sz"); (case sb => walk_at "sz")) | (refine' Sz.neg ?sa; (case sa => walk_at "sz")))
local macro_rules | `(tactic| walk_at "szm") => `(tactic| ((try dsimp only); refine' Sz.mono ?sa ?sb; (case sa => walk_at "sz"); (case sb => decide)))
local macro_rules | `(tactic| walk_at "ml") => `(tactic| (refine' mul_okE ?sa ?sb ?c0 ?c1 ?c2; (case sa => walk_at "sz"); (case sb => walk_at "sz"); (case c0 => decide); (case c1 => decide); (case c2 => decide)))
local macro_rules | `(tactic| walk_at "lit") => `(tactic| (show Int.natAbs _ < 2 ^ _; decide))
local macro_rules | `(tactic| walk_at "ex") => `(tactic| first | exact ex0 | assumption | (refine' Evl.Ex.trans ?ea ?eb; (case eb => assumption); (case ea => walk_at "ex")))
local macro_rules | `(tactic| walk_at "bd") => `(tactic| (refine' Sz.mono (m := 20) ?sa ?sb; (case sb => decide); (case sa => walk_at "lit")))

/-! ### lists of fractions that grow -/
def FL (H : Hp) (D : Addr) (fs : List (Int × Int)) : Prop := ∃ us, H D = some (.lst us) ∧ Fracs H us fs
theorem FL.ex {H H' : Hp} {D : Addr} {fs : List (Int × Int)} (h : FL H D fs) (e : Ex H H') : FL H' D fs := by
  obtain ⟨us, h1, h2⟩ := h
  exact ⟨us, e _ _ h1, h2.ex e⟩
theorem Fracs.ext {H H' : Hp} {xs : List V} {fs : List (Int × Int)} (h : Fracs H xs fs) (e : ExT H H') : Fracs H' xs fs := ⟨h.1, fun i x f a b => (h.2 i x f a b).ext e⟩
theorem FL.other {H : Hp} {D E : Addr} {fs : List (Int × Int)} {ys zs : List V} (h : FL H D fs) (hE : H E = some (.lst ys)) (n : D ≠ E) : FL (upd H E (.lst zs)) D fs := by
  obtain ⟨us, h1, h2⟩ := h
  exact ⟨us, by rw [upd_ne n]; exact h1, h2.ext (ExT.lst hE)⟩
theorem Fracs.snoc {H : Hp} {xs : List V} {fs : List (Int × Int)} {x : V} {f : Int × Int} (h : Fracs H xs fs) (hx : FracAt H x f) : Fracs H (xs ++ [x]) (fs ++ [f]) := by
  obtain ⟨l, a⟩ := h
  refine ⟨by rw [List.length_append, List.length_append, l]; rfl, fun i y g hy hg => ?_⟩
  by_cases hi : i < xs.length
  · rw [List.getElem?_append_left hi] at hy
    rw [List.getElem?_append_left (by omega)] at hg
    exact a i y g hy hg
  · rw [List.getElem?_append_right (by omega)] at hy
    rw [List.getElem?_append_right (by omega)] at hg
    have z : i - xs.length = 0 := by
      cases q : i - xs.length with
      | zero => rfl
      | succ m =>
        rw [q] at hy
        simp at hy
    rw [z] at hy
    rw [show i - fs.length = 0 by omega] at hg
    have ey : x = y := Option.some.inj hy
    have eg : f = g := Option.some.inj hg
    rw [← ey, ← eg]
    exact hx
theorem Fracs.one {H : Hp} {x : V} {f : Int × Int} (h : FracAt H x f) : Fracs H [x] [f] := Fracs.snoc (xs := []) (fs := []) ⟨rfl, fun i x f a _ => by simp at a⟩ h
theorem Fracs.two {H : Hp} {x y : V} {f g : Int × Int} (h : FracAt H x f) (k : FracAt H y g) : Fracs H [x, y] [f, g] := (Fracs.one h).snoc k
theorem Fracs.three {H : Hp} {x y z : V} {f g i : Int × Int} (h : FracAt H x f) (k : FracAt H y g) (l : FracAt H z i) : Fracs H [x, y, z] [f, g, i] := (Fracs.two h k).snoc l
theorem rank_gap (f g : Int × Int) : (if f.1 * g.2 - g.1 * f.2 = 0 then (0 : Int) else if 0 < f.1 * g.2 - g.1 * f.2 then 1 else -1) = rank f g := by
  unfold rank
  generalize f.1 * g.2 = a
  generalize g.1 * f.2 = b
  by_cases h : a = b
  · rw [if_pos h, if_pos (by omega)]
  · rw [if_neg h, if_neg (show ¬ a - b = 0 by omega)]
    by_cases k : a < b
    · rw [if_pos k, if_neg (by omega)]
    · rw [if_neg k, if_pos (by omega)]
theorem rank_turn (f g : Int × Int) : rank g f = -rank f g := by
  unfold rank
  generalize f.1 * g.2 = a
  generalize g.1 * f.2 = b
  by_cases h : a = b
  · rw [if_pos h, if_pos h.symm]
    rfl
  · rw [if_neg h, if_neg (fun q => h q.symm)]
    by_cases k : a < b
    · rw [if_pos k, if_neg (by omega)]
      rfl
    · rw [if_neg k, if_pos (by omega)]
/-- what is known behind each piece -/
structure Two (H0 : Hp) (u w : V) (f g : Int × Int) (D L : Addr) (fs : List (Int × Int)) (H : Hp) : Prop where
  ex : Ex H0 H
  hu : FracAt H u f
  hw : FracAt H w g
  nD : H0 D = none
  nL : H0 L = none
  ne : D ≠ L
  due : FL H D fs
  told : FL H L fs
theorem Two.on {H0 H H' : Hp} {u w : V} {f g : Int × Int} {D L : Addr} {fs : List (Int × Int)} (T : Two H0 u w f g D L fs H) (e : Ex H H') : Two H0 u w f g D L fs H' := by
  obtain ⟨a, b, c, d, i, j, k, l⟩ := T
  exact ⟨a.trans e, b.ex e, c.ex e, d, i, j, k.ex e, l.ex e⟩
theorem ok_law_two (T : Tx K mg) : FnOk P w K mg base CX0 6 T.law_two T.law_two_fd ["draws"] spYes := by
  refine T.law_two_F.ok sc_law_two (fun vs H Q E h => ?_) (fun cdv A outer s H vs Q E hr h => ?_)
  · obtain ⟨d, rfl, _⟩ := h
    rfl
  · obtain ⟨d, rfl, hd, k⟩ := h
    refine ⟨_, (pss_cons (ps_asg (pe_call (ok_law_pair T) (hr.mono (by decide)) (by rfl) T.law_pair_m T.law_pair_F.kp T.law_pair_b .nil pass0 (pa_cons (pv 0) pa_nil)) (pg_tup rfl (pgs_cons (pg_name (i := 1) sc_law_two.nd rfl (Or.inl rfl)) (pgs_cons (pg_name (i := 2) sc_law_two.nd rfl (Or.inl rfl)) pgs_nil))))
      (pss_cons (ps_set (i := 3) sc_law_two.nd rfl (Or.inl rfl) (pe_op op_sub (pe_op op_mulW (pe_ix ix_tup (pv 1) pe_int (fun _ _ => rfl)) (pe_ix ix_tup (pv 2) pe_int (fun _ _ => rfl))) (pe_op op_mulW (pe_ix ix_tup (pv 2) pe_int (fun _ _ => rfl)) (pe_ix ix_tup (pv 1) pe_int (fun _ _ => rfl)))))
      (Evl.pss_cut (ps_set (i := 4) sc_law_two.nd rfl (Or.inl rfl) (pe_ifExp (pt_cmpR op_eq (pv 3) pe_int (nomark _)) pe_int (pe_ifExp (pt_cmpR op_gt (pv 3) pe_int (nomark _)) pe_int (pe_un un_neg pe_int))))
      (pss_cons (ps_set (i := 5) sc_law_two.nd rfl (Or.inr rfl) (pe_lst (pa_cons (pe_call (ok_law_low T) (hr.mono (by decide)) (by rfl) T.law_low_m T.law_low_F.kp T.law_low_b .nil pass0 (pa_cons (pe_op op_add (pe_op op_mulW (pe_ix ix_tup (pv 1) pe_int (fun _ _ => rfl)) (pe_ix ix_tup (pv 2) pe_int (fun _ _ => rfl))) (pe_op op_mulW (pe_ix ix_tup (pv 2) pe_int (fun _ _ => rfl)) (pe_ix ix_tup (pv 1) pe_int (fun _ _ => rfl)))) (pa_cons (pe_op op_mulW (pe_ix ix_tup (pv 1) pe_int (fun _ _ => rfl)) (pe_ix ix_tup (pv 2) pe_int (fun _ _ => rfl))) pa_nil))) (pa_cons (pe_call (ok_law_low T) (hr.mono (by decide)) (by rfl) T.law_low_m T.law_low_F.kp T.law_low_b .nil pass0 (pa_cons (pv 3) (pa_cons (pe_op op_mulW (pe_ix ix_tup (pv 1) pe_int (fun _ _ => rfl)) (pe_ix ix_tup (pv 2) pe_int (fun _ _ => rfl))) pa_nil))) pa_nil))))
      (pss_cons (ps_expr (pe_bm PySem.F.plainAttrs_list PySem.F.slot_list_append PySem.F.type_list_append mt_append (pv 5) (pa_cons (pe_call (ok_law_low T) (hr.mono (by decide)) (by rfl) T.law_low_m T.law_low_F.kp T.law_low_b .nil pass0 (pa_cons (pe_op op_mulW (pe_ix ix_tup (pv 1) pe_int (fun _ _ => rfl)) (pe_ix ix_tup (pv 2) pe_int (fun _ _ => rfl))) (pa_cons (pe_op op_mulW (pe_ix ix_tup (pv 1) pe_int (fun _ _ => rfl)) (pe_ix ix_tup (pv 2) pe_int (fun _ _ => rfl))) pa_nil))) pa_nil)))
      (pss_cons (ps_set (i := 6) sc_law_two.nd rfl (Or.inr rfl) (pe_lst (pa_cons (pe_call (ok_added T) (hr.mono (by decide)) (by rfl) T.added_m T.added_F.kp T.added_b .nil pass0 (pa_cons (pv 1) (pa_cons (pv 2) pa_nil))) (pa_cons (pe_call (ok_less T) (hr.mono (by decide)) (by rfl) T.less_m T.less_F.kp T.less_b .nil pass0 (pa_cons (pv 1) (pa_cons (pv 2) pa_nil))) (pa_cons (pe_call (ok_multiplied T) (hr.mono (by decide)) (by rfl) T.multiplied_m T.multiplied_F.kp T.multiplied_b .nil pass0 (pa_cons (pv 1) (pa_cons (pv 2) pa_nil))) pa_nil)))))
      (Evl.pss_cut (ps_if (pt_cmpR op_eq (pe_call (ok_law_any T) (hr.mono (by decide)) (by rfl) T.law_any_m T.law_any_F.kp T.law_any_b .nil pass0 (pa_cons (pv 0) (pa_cons pe_int pa_nil))) pe_int (nomark _)) (pss_one (ps_set (i := 6) sc_law_two.nd rfl (Or.inr rfl) (pe_lst (pa_cons (Pre.pe_callK0 (ok_added T) (hr.mono (by decide)) (by rfl) T.added_m T.added_F.kp (kb_added_other_one T.added_F) pass0 (pk_cons (pv 2) (pk_cons (pv 1) pk_nil))) (pa_cons (Pre.pe_callK0 (ok_less T) (hr.mono (by decide)) (by rfl) T.less_m T.less_F.kp (kb_less_other_one T.less_F) pass0 (pk_cons (pv 2) (pk_cons (pv 1) pk_nil))) (pa_cons (Pre.pe_callK0 (ok_multiplied T) (hr.mono (by decide)) (by rfl) T.multiplied_m T.multiplied_F.kp (kb_multiplied_other_one T.multiplied_F) pass0 (pk_cons (pv 2) (pk_cons (pv 1) pk_nil))) pa_nil)))))) pss_nil)
      (Evl.pss_cut (ps_if (pt_cmpR op_ne (pe_ix ix_tup (pv 2) pe_int (fun _ _ => rfl)) pe_int (nomark _)) (pss_cons (ps_expr (pe_bm PySem.F.plainAttrs_list PySem.F.slot_list_append PySem.F.type_list_append mt_append (pv 5) (pa_cons (pe_call (ok_law_low T) (hr.mono (by decide)) (by rfl) T.law_low_m T.law_low_F.kp T.law_low_b .nil pass0 (pa_cons (pe_op op_mulW (pe_ix ix_tup (pv 1) pe_int (fun _ _ => rfl)) (pe_ix ix_tup (pv 2) pe_int (fun _ _ => rfl))) (pa_cons (pe_op op_mulW (pe_ix ix_tup (pv 1) pe_int (fun _ _ => rfl)) (pe_ix ix_tup (pv 2) pe_int (fun _ _ => rfl))) pa_nil))) pa_nil)))
      (pss_one (ps_expr (pe_bm PySem.F.plainAttrs_list PySem.F.slot_list_append PySem.F.type_list_append mt_append (pv 6) (pa_cons (pe_ifExp (pt_cmpR op_eq (pe_call (ok_law_any T) (hr.mono (by decide)) (by rfl) T.law_any_m T.law_any_F.kp T.law_any_b .nil pass0 (pa_cons (pv 0) (pa_cons pe_int pa_nil))) pe_int (nomark _)) (pe_call (ok_divided T) (hr.mono (by decide)) (by rfl) T.divided_m T.divided_F.kp T.divided_b .nil pass0 (pa_cons (pv 1) (pa_cons (pv 2) pa_nil))) (Pre.pe_callK0 (ok_divided T) (hr.mono (by decide)) (by rfl) T.divided_m T.divided_F.kp (kb_divided_other_one T.divided_F) pass0 (pk_cons (pv 2) (pk_cons (pv 1) pk_nil)))) pa_nil))))) pss_nil)
      (pss_cons (ps_if (pt_cmpR op_gt (pe_callB call_len (by rfl) T.z_len (by decide +kernel) (pa_cons (pe_lc (own := [("at", 8)]) (g := gName 8) rfl sc_law_two.nd (pi_range1 (by rfl) T.z_range (pa_cons (pe_callB call_len (by rfl) T.z_len (by decide +kernel) (pa_cons (pv 5) pa_nil)) pa_nil)) (blkOk_by (own := [("at", 8)]) (N := ["draws", "one", "other", "gap", "rank", "dues", "tolds", "some", "at"]) (sc := defScope s_law_two) (by decide +kernel)) (fun _ _ _ _ _ => pg_name (i := 8) sc_law_two.nd rfl (Or.inl rfl)) (fun _ _ _ _ _ => pts_one (pt_not (pt_val (pe_call (ok_law_is T) (hr.mono (by decide)) (by rfl) T.law_is_m T.law_is_F.kp T.law_is_b .nil pass0 (pa_cons (pe_ix (show IxR _ (rIxL K) from ix_list) (pv 6) (pv 8) (fun _ _ => rfl)) (pa_cons (pe_ix (show IxR _ (rIxL K) from ix_list) (pv 5) (pv 8) (fun _ _ => rfl)) pa_nil)))))) (fun _ _ _ _ _ => pv 8)) pa_nil)) pe_int (nomark _)) (pss_one (ps_ret pe_bl)) pss_nil)
      (pss_cons (ps_if (PW.pt (pw_or (pt_not (pt_val (pe_call (ok_law_number_is T) (hr.mono (by decide)) (by rfl) T.law_number_is_m T.law_number_is_F.kp T.law_number_is_b .nil pass0 (pa_cons (pe_call (ok_compared T) (hr.mono (by decide)) (by rfl) T.compared_m T.compared_F.kp T.compared_b .nil pass0 (pa_cons (pv 1) (pa_cons (pv 2) pa_nil))) (pa_cons (pv 4) pa_nil))))) (pw_or1 (pt_not (pt_val (pe_call (ok_law_number_is T) (hr.mono (by decide)) (by rfl) T.law_number_is_m T.law_number_is_F.kp T.law_number_is_b .nil pass0 (pa_cons (Pre.pe_callK0 (ok_compared T) (hr.mono (by decide)) (by rfl) T.compared_m T.compared_F.kp (kb_compared_other_one T.compared_F) pass0 (pk_cons (pv 1) (pk_cons (pv 2) pk_nil))) (pa_cons (pe_un un_neg (pv 4)) pa_nil)))))))) (pss_one (ps_ret pe_bl)) pss_nil)
      (pss_cons (ps_for PassesOwn.never rfl (pi_tup (pe_tup (pa_cons (pv 1) (pa_cons (pv 2) pa_nil)))) (pg_name (i := 7) sc_law_two.nd rfl (Or.inl rfl)) (pss_one (ps_if (PW.pt (pw_or (pt_not (pt_val (pe_call (ok_law_flag_is T) (hr.mono (by decide)) (by rfl) T.law_flag_is_m T.law_flag_is_F.kp T.law_flag_is_b .nil pass0 (pa_cons (pe_call (ok_is_whole T) (hr.mono (by decide)) (by rfl) T.is_whole_m T.is_whole_F.kp T.is_whole_b .nil pass0 (pa_cons (pv 7) pa_nil)) (pa_cons (pe_cmpR op_eq (pe_ix ix_tup (pv 7) pe_int (fun _ _ => rfl)) pe_int (nomark _)) pa_nil))))) (pw_or1 (pt_not (pt_val (pe_call (ok_law_number_is T) (hr.mono (by decide)) (by rfl) T.law_number_is_m T.law_number_is_F.kp T.law_number_is_b .nil pass0 (pa_cons (Pre.pe_callK0 (ok_floor_of T) (hr.mono (by decide)) (by rfl) T.floor_of_m T.floor_of_F.kp (kb_floor_of_one T.floor_of_F) pass0 (pk_cons (pv 7) pk_nil)) (pa_cons (pe_op Pre.op_fdivG (pe_ix ix_tup (pv 7) pe_int (fun _ _ => rfl)) (pe_ix ix_tup (pv 7) pe_int (fun _ _ => rfl))) pa_nil)))))))) (pss_one (ps_ret pe_bl)) pss_nil)))
      (pss_one (ps_ret pe_bl))))))))))))), ?_⟩
    refine ⟨_, rfl, d, rfl, hd, fun v H1 f g e1 hv F G => ?_⟩
    obtain ⟨r, u, w, rfl, hr1, hu, hw⟩ := hv
    obtain ⟨fp, fz1, fz2⟩ := F
    obtain ⟨gp, gz1, gz2⟩ := G
    have f1 : Sz 4000 f.1 := fz1.mono (by decide)
    have f2 : Sz 4000 f.2 := fz2.mono (by decide)
    have g1 : Sz 4000 g.1 := gz1.mono (by decide)
    have g2 : Sz 4000 g.2 := gz2.mono (by decide)
    have nb : f.2 * g.2 ≠ 0 := Int.mul_ne_zero (by omega) (by omega)
    obtain ⟨p, rfl, hp⟩ := id hu
    obtain ⟨q, rfl, hq⟩ := id hw
    -- one, other; gap
    refine ⟨r, _, rfl, SqT.of hr1, rfl, _, _, rfl, _, _, rfl, rfl, ?_⟩
    refine ⟨_, rfl, p, _, _, _, rfl, rfl, SqT.of hp, rfl, _, rfl, q, _, _, _, rfl, rfl, SqT.of hq, rfl, _, _, rfl, rfl, (by walk_at "ml"), _, rfl, q, _, _, _, rfl, rfl, SqT.of hq, rfl, _, rfl, p, _, _, _, rfl, rfl, SqT.of hp, rfl, _, _, rfl, rfl, (by walk_at "ml"), _, _, rfl, rfl,
      fun σ' H' => H' = H1 ∧ σ' = [some (.ref d), some (.ref p), some (.ref q), some (.int (f.1 * g.2 - g.1 * f.2)), some (.int (rank f g)), none, none, none, none], ?_, ?_⟩
    · have rg := rank_gap f g
      refine ⟨_, rfl, rfl, _, rfl, ite2 (fun hc => ?_) (fun hc => ⟨_, rfl, _, _, rfl, rfl, _, rfl, ite2 (fun hc2 => ?_) (fun hc2 => ⟨_, rfl, rfl, ?_⟩)⟩)⟩
      · rw [decI] at hc
        rw [if_pos (of_decide_eq_true hc)] at rg
        rw [← rg]
        exact ⟨rfl, rfl⟩
      · rw [decI] at hc
        rw [if_neg (fun z => hc (decide_eq_true z)), if_pos (of_decide_eq_true hc2)] at rg
        rw [← rg]
        exact ⟨rfl, rfl⟩
      · rw [decI] at hc
        rw [if_neg (fun z => hc (decide_eq_true z)), if_neg (fun z => hc2 (decide_eq_true z))] at rg
        rw [← rg]
        rfl
    rintro σ' H1' ⟨rfl, rfl⟩
    -- dues = [.., ..]
    have zsum : Sz 8000 (f.1 * g.2 + g.1 * f.2) := ((fz1.mul gz2).add (gz1.mul fz2)).mono (by decide)
    have zdif : Sz 8000 (f.1 * g.2 - g.1 * f.2) := ((fz1.mul gz2).sub (gz1.mul fz2)).mono (by decide)
    have zprd : Sz 8000 (f.1 * g.1) := by walk_at "szm"
    have zbot : Sz 8000 (f.2 * g.2) := by walk_at "szm"
    refine ⟨_, rfl, p, _, _, _, rfl, rfl, SqT.of hp, rfl, _, rfl, q, _, _, _, rfl, rfl, SqT.of hq, rfl, _, _, rfl, rfl, (by walk_at "ml"), _, rfl, q, _, _, _, rfl, rfl, SqT.of hq, rfl, _, rfl, p, _, _, _, rfl, rfl, SqT.of hp, rfl, _, _, rfl, rfl, (by walk_at "ml"), _, _, rfl, rfl,
      _, rfl, p, _, _, _, rfl, rfl, SqT.of hp, rfl, _, rfl, q, _, _, _, rfl, rfl, SqT.of hq, rfl, _, _, rfl, rfl, (by walk_at "ml"), _, _, rfl, nb, zsum, zbot, fun x1 H2 e2 hx1 => ?_⟩
    have hp2 := e2 _ _ hp
    have hq2 := e2 _ _ hq
    refine ⟨_, rfl, _, rfl, p, _, _, _, rfl, rfl, SqT.of hp2, rfl, _, rfl, q, _, _, _, rfl, rfl, SqT.of hq2, rfl, _, _, rfl, rfl, (by walk_at "ml"), _, _, rfl, nb, zdif, zbot, fun x2 H3 e3 hx2 => ⟨(by show 2 ≤ sizeLine; decide), fun D nD => ?_⟩⟩
    generalize hg4 : upd H3 D _ = H4
    have e4 := newE hg4 nD
    have hD4 := newP hg4
    have E3 : Ex H H3 := e1.trans (e2.trans e3)
    have nD0 : H D = none := Evl.fresh_back E3 nD
    have hp4 := e4 _ _ (e3 _ _ hp2)
    have hq4 := e4 _ _ (e3 _ _ hq2)
    -- dues.append(..)
    refine ⟨_, rfl, .inl ⟨rfl, _, SqL.of hD4⟩, _, rfl, p, _, _, _, rfl, rfl, SqT.of hp4, rfl, _, rfl, q, _, _, _, rfl, rfl, SqT.of hq4, rfl, _, _, rfl, rfl, (by walk_at "ml"), _, rfl, p, _, _, _, rfl, rfl, SqT.of hp4, rfl, _, rfl, q, _, _, _, rfl, rfl, SqT.of hq4, rfl, _, _, rfl, rfl, (by walk_at "ml"), _, _, rfl, nb, zprd, zbot, fun x3 H5 e5 hx3 => ?_⟩
    have hD5 := e5 _ _ hD4
    refine ⟨D, _, _, rfl, rfl, hD5, small1000 (by show 2 ≤ 1000; decide), ?_⟩
    have T6 : Ex H (upd H5 D (.lst [x1, x2, x3])) := Evl.Ex.mut (E3.trans (e4.trans e5)) nD0
    have tt6 : ExT H5 (upd H5 D (.lst [x1, x2, x3])) := ExT.lst hD5
    have hu6 : FracAt (upd H5 D (.lst [x1, x2, x3])) (.ref p) f := FracAt.ext ⟨p, rfl, e5 _ _ hp4⟩ tt6
    have hw6 : FracAt (upd H5 D (.lst [x1, x2, x3])) (.ref q) g := FracAt.ext ⟨q, rfl, e5 _ _ hq4⟩ tt6
    have due6 : FL (upd H5 D (.lst [x1, x2, x3])) D [red (f.1 * g.2 + g.1 * f.2) (f.2 * g.2), red (f.1 * g.2 - g.1 * f.2) (f.2 * g.2), red (f.1 * g.1) (f.2 * g.2)] :=
      ⟨_, upd_same, Fracs.three (FracAt.ext (((hx1.ex e3).ex e4).ex e5) tt6) (FracAt.ext ((hx2.ex e4).ex e5) tt6) (FracAt.ext hx3 tt6)⟩
    show tSeq _ _ _ _ (upd H5 D (.lst [x1, x2, x3]))
    generalize upd H5 D (.lst [x1, x2, x3]) = H6 at T6 hu6 hw6 due6 ⊢
    clear tt6 hD5 hD4 hg4
    -- tolds = [added, less, multiplied]
    refine ⟨_, rfl, _, rfl, _, _, _, _, rfl, hu6, hw6, f1, f2, g1, g2, nb, fun y1 H7 e7 hy1 => ⟨_, rfl, _, rfl, _, _, _, _, rfl, hu6.ex e7, hw6.ex e7, f1, f2, g1, g2, nb, fun y2 H8 e8 hy2 => ⟨_, rfl, _, rfl, _, _, _, _, rfl, (hu6.ex e7).ex e8, (hw6.ex e7).ex e8, f1, f2, g1, g2, nb, fun y3 H9 e9 hy3 => ⟨(by show 3 ≤ sizeLine; decide), fun L nL => ?_⟩⟩⟩⟩
    generalize hg10 : upd H9 L _ = H10
    have e10 := newE hg10 nL
    have hL10 := newP hg10
    have E69 : Ex H6 H9 := e7.trans (e8.trans e9)
    have nL0 : H L = none := Evl.fresh_back (T6.trans E69) nL
    have neDL : D ≠ L := by
      obtain ⟨us, hus, _⟩ := due6.ex E69
      exact ne_of_none hus nL
    have W10 : Two H (.ref p) (.ref q) f g D L [red (f.1 * g.2 + g.1 * f.2) (f.2 * g.2), red (f.1 * g.2 - g.1 * f.2) (f.2 * g.2), red (f.1 * g.1) (f.2 * g.2)] H10 :=
      ⟨T6.trans (E69.trans e10), (hu6.ex E69).ex e10, (hw6.ex E69).ex e10, nD0, nL0, neDL, (due6.ex E69).ex e10, ⟨_, hL10, Fracs.three (((hy1.ex e8).ex e9).ex e10) ((hy2.ex e9).ex e10) (hy3.ex e10)⟩⟩
    clear hg10 hL10 e10
    -- the same by keywords, perhaps
    refine ⟨fun σ' H' => ∃ L, σ' = [some (.ref d), some (.ref p), some (.ref q), some (.int (f.1 * g.2 - g.1 * f.2)), some (.int (rank f g)), some (.ref D), some (.ref L), none, none] ∧ Two H (.ref p) (.ref q) f g D L [red (f.1 * g.2 + g.1 * f.2) (f.2 * g.2), red (f.1 * g.2 - g.1 * f.2) (f.2 * g.2), red (f.1 * g.1) (f.2 * g.2)] H', ?_, ?_⟩
    · refine ⟨_, rfl, d, 2, rfl, hd.ex W10.ex, by decide, (by walk_at "bd"), fun v H11 e11 _ _ => ⟨rfl, _, rfl, ite2 (fun _ => ?_) (fun _ => ⟨L, rfl, W10.on e11⟩)⟩⟩
      have W11 := W10.on e11
      obtain ⟨E11, hu11, hw11, _, _, _, due11, _⟩ := W11
      refine ⟨_, rfl, _, rfl, rfl, rfl, _, _, _, _, rfl, hu11, hw11, f1, f2, g1, g2, nb, fun y1 H12 e12 hy1 => ⟨_, rfl, _, rfl, rfl, rfl, _, _, _, _, rfl, hu11.ex e12, hw11.ex e12, f1, f2, g1, g2, nb, fun y2 H13 e13 hy2 => ⟨_, rfl, _, rfl, rfl, rfl, _, _, _, _, rfl, (hu11.ex e12).ex e13, (hw11.ex e12).ex e13, f1, f2, g1, g2, nb, fun y3 H14 e14 hy3 => ⟨(by show 3 ≤ sizeLine; decide), fun L2 nL2 => ?_⟩⟩⟩⟩
      generalize hg15 : upd H14 L2 _ = H15
      have e15 := newE hg15 nL2
      have hL15 := newP hg15
      have E14 : Ex H11 H14 := e12.trans (e13.trans e14)
      obtain ⟨us, hus, hfr⟩ := due11.ex E14
      exact ⟨L2, rfl, E11.trans (E14.trans e15), (hu11.ex E14).ex e15, (hw11.ex E14).ex e15, nD0, Evl.fresh_back (E11.trans E14) nL2, ne_of_none hus nL2, FL.ex ⟨us, hus, hfr⟩ e15, ⟨_, hL15, Fracs.three (((hy1.ex e13).ex e14).ex e15) ((hy2.ex e14).ex e15) (hy3.ex e15)⟩⟩
    rintro σ' H16 ⟨L3, rfl, W16⟩
    clear W10 e7 e8 e9 hy1 hy2 hy3 E69 nL nL0 neDL
    -- a quotient, perhaps
    refine ⟨fun σ' H' => ∃ fs, fs.length ≤ 4 ∧ σ' = [some (.ref d), some (.ref p), some (.ref q), some (.int (f.1 * g.2 - g.1 * f.2)), some (.int (rank f g)), some (.ref D), some (.ref L3), none, none] ∧ Two H (.ref p) (.ref q) f g D L3 fs H', ?_, ?_⟩
    · obtain ⟨q', eq', hq16⟩ := id W16.hw
      cases eq'
      obtain ⟨p', ep', hp16⟩ := id W16.hu
      cases ep'
      refine ⟨_, rfl, q, _, _, _, rfl, rfl, SqT.of hq16, rfl, rfl, _, rfl, ite2 (fun hc => ?_) (fun _ => ⟨_, by show 3 ≤ 4; decide, rfl, W16⟩)⟩
      rw [decI] at hc
      have gn : g.1 ≠ 0 := fun z => by simp [z] at hc
      have nq : f.2 * g.1 ≠ 0 := Int.mul_ne_zero (by omega) gn
      have zq1 : Sz 8000 (f.1 * g.2) := by walk_at "szm"
      have zq2 : Sz 8000 (f.2 * g.1) := by walk_at "szm"
      obtain ⟨us, hD16, frD⟩ := W16.due
      obtain ⟨ws, hL16, frL⟩ := W16.told
      refine ⟨_, rfl, .inl ⟨rfl, _, SqL.of hD16⟩, _, rfl, p, _, _, _, rfl, rfl, SqT.of hp16, rfl, _, rfl, q, _, _, _, rfl, rfl, SqT.of hq16, rfl, _, _, rfl, rfl, (by walk_at "ml"), _, rfl, p, _, _, _, rfl, rfl, SqT.of hp16, rfl, _, rfl, q, _, _, _, rfl, rfl, SqT.of hq16, rfl, _, _, rfl, rfl, (by walk_at "ml"), _, _, rfl, nq, zq1, zq2, fun x4 H17 e17 hx4 => ?_⟩
      have hD17 := e17 _ _ hD16
      refine ⟨D, _, _, rfl, rfl, hD17, small1000 (by rw [frD.1]; show 3 ≤ 1000; decide), ?_⟩
      have tt18 : ExT H17 (upd H17 D (.lst (us ++ [x4]))) := ExT.lst hD17
      have E18 : Ex H (upd H17 D (.lst (us ++ [x4]))) := Evl.Ex.mut (W16.ex.trans e17) nD0
      have hu18 := FracAt.ext (W16.hu.ex e17) tt18
      have hw18 := FracAt.ext (W16.hw.ex e17) tt18
      have due18 : FL (upd H17 D (.lst (us ++ [x4]))) D _ := ⟨_, upd_same, (Fracs.snoc (frD.ex e17) hx4).ext tt18⟩
      have told18 := FL.other (D := L3) (zs := us ++ [x4]) (FL.ex ⟨ws, hL16, frL⟩ e17) hD17 W16.ne.symm
      generalize upd H17 D (.lst (us ++ [x4])) = H18 at E18 hu18 hw18 due18 told18 ⊢
      clear tt18
      obtain ⟨ws', hL18, frL18⟩ := told18
      have fin : ∀ y H20, Ex H18 H20 → FracAt H20 y (red (f.1 * g.2) (f.2 * g.1)) → ∃ fs, fs.length ≤ 4 ∧ ([some (.ref d), some (.ref p), some (.ref q), some (.int (f.1 * g.2 - g.1 * f.2)), some (.int (rank f g)), some (.ref D), some (.ref L3), none, none] : L2.St) = [some (.ref d), some (.ref p), some (.ref q), some (.int (f.1 * g.2 - g.1 * f.2)), some (.int (rank f g)), some (.ref D), some (.ref L3), none, none] ∧ Two H (.ref p) (.ref q) f g D L3 fs (upd H20 L3 (.lst (ws' ++ [y]))) := fun y H20 e20 hy => by
        have hL20 := e20 _ _ hL18
        have tt : ExT H20 (upd H20 L3 (.lst (ws' ++ [y]))) := ExT.lst hL20
        refine ⟨_, ?_, rfl, Evl.Ex.mut (E18.trans e20) W16.nL, FracAt.ext (hu18.ex e20) tt, FracAt.ext (hw18.ex e20) tt, nD0, W16.nL, W16.ne, FL.other (FL.ex due18 e20) hL20 W16.ne, ⟨_, upd_same, (Fracs.snoc (frL18.ex e20) hy).ext tt⟩⟩
        show 4 ≤ 4
        decide
      refine ⟨_, rfl, .inl ⟨rfl, _, SqL.of hL18⟩, _, rfl, d, 2, rfl, hd.ex E18, by decide, (by walk_at "bd"), fun v H19 e19 _ _ => ⟨rfl, _, rfl, ite2 (fun _ => ?_) (fun _ => ?_)⟩⟩
      · refine ⟨_, rfl, _, rfl, _, _, _, _, rfl, hu18.ex e19, hw18.ex e19, f1, f2, g1, g2, nq, fun y H20 e20 hy => ⟨L3, _, _, rfl, rfl, e20 _ _ (e19 _ _ hL18), small1000 (by rw [frL18.1]; show 3 ≤ 1000; decide), fin y H20 (e19.trans e20) hy⟩⟩
      · refine ⟨_, rfl, _, rfl, rfl, rfl, _, _, _, _, rfl, hu18.ex e19, hw18.ex e19, f1, f2, g1, g2, nq, fun y H20 e20 hy => ⟨L3, _, _, rfl, rfl, e20 _ _ (e19 _ _ hL18), small1000 (by rw [frL18.1]; show 3 ≤ 1000; decide), fin y H20 (e19.trans e20) hy⟩⟩
    rintro σ' H21 ⟨fs, fl, rfl, W21⟩
    clear W16
    -- no two differ
    obtain ⟨E21, hu21, hw21, _, nL0, neDL, ⟨us, hD21, frD⟩, ⟨ws, hL21, frL⟩⟩ := W21
    refine ⟨_, rfl, _, _, rfl, .inl ⟨us, SqL.of hD21, rfl⟩, _, rfl, by omega, by have := frD.1; omega, fun Dl nDl => kept_range (R := fun _ _ _ => False) (fun _ _ _ _ _ r => r) (by have := frD.1; omega) (fun i H22 hi e22 Y N hY hN => ?_) nDl (fun H22 ys e22 hDl hlen hys => ?_)⟩
    · have hi' : i < us.length := by omega
      have gu : us[i]? = some us[i] := List.getElem?_eq_getElem hi'
      have gw : ws[i]? = some (ws[i]'(by rw [frL.1, ← frD.1]; exact hi')) := List.getElem?_eq_getElem _
      have gf : fs[i]? = some (fs[i]'(by rw [← frD.1]; exact hi')) := List.getElem?_eq_getElem _
      have ei : (0 : Int) + (i : Int) = (i : Int) := Int.zero_add _
      refine ⟨rfl, _, rfl, _, rfl, L3, _, _, _, rfl, rfl, SqL.of (e22 _ _ hL21), at_of (j := i) ei gw, _, rfl, _, rfl, D, _, _, _, rfl, rfl, SqL.of (e22 _ _ hD21), at_of (j := i) ei gu, _, _, _, rfl, (frL.2 i _ _ gw gf).ex e22, (frD.2 i _ _ gu gf).ex e22, true, rfl, iteF ?_⟩
      exact hN _ ex0
    · have y0 : ys = [] := by
        cases ys with
        | nil => rfl
        | cons y ys =>
          obtain ⟨_, _, q⟩ := hys y (List.mem_cons_self ..)
          exact q.elim
      subst y0
      refine ⟨_, _, rfl, .inl ⟨_, SqL.of hDl, rfl⟩, _, _, rfl, rfl, _, rfl, iteF ?_⟩
      have hu22 := hu21.ex e22
      have hw22 := hw21.ex e22
      have E22 := E21.trans e22
      -- compared
      refine ⟨_, rfl, _, rfl, _, _, _, _, rfl, hu22, hw22, f1, f2, g1, g2, _, rfl, _, rfl, true, rfl, iteF ?_⟩
      refine ⟨_, rfl, _, rfl, rfl, rfl, _, _, _, _, rfl, hw22, hu22, g1, g2, f1, f2, _, rfl, _, rfl, ?_⟩
      rw [rank_turn f g]
      refine ⟨_, rfl, true, rfl, iteF ?_⟩
      -- for some in (one, other)
      refine ⟨_, rfl, _, rfl, (by show 2 ≤ sizeLine; decide), fun t nt => ?_⟩
      generalize hg23 : upd H22 t _ = H23
      have e23 := newE hg23 nt
      have ht23 := newP hg23
      refine ⟨t, rfl, ⟨_, SqT.of ht23⟩, for_tup (K := K) (fun i σ' H' => H' = H23 ∧ ∃ v, σ' = [some (.ref d), some (.ref p), some (.ref q), some (.int (f.1 * g.2 - g.1 * f.2)), some (.int (rank f g)), some (.ref D), some (.ref L3), v, none]) ⟨rfl, none, rfl⟩ (fun i σ' H' _ z => by rw [z.1]; exact SqT.of ht23) ?_ ?_⟩
      · rintro i x σ' H' hx ⟨rfl, v, rfl⟩
        obtain ⟨h0, hh, hz1, hz2⟩ : ∃ h0, FracAt H' x h0 ∧ h0.2 ≠ 0 ∧ Sz 8900 h0.2 := by
          match i, hx with
          | 0, hx =>
            rw [← Option.some.inj hx]
            exact ⟨f, hu22.ex e23, by omega, f2.mono (by decide)⟩
          | 1, hx =>
            rw [← Option.some.inj hx]
            exact ⟨g, hw22.ex e23, by omega, g2.mono (by decide)⟩
          | i + 2, hx => simp at hx
        obtain ⟨y, rfl, hy⟩ := id hh
        refine ⟨_, rfl, _, _, rfl, hh, _, rfl, y, _, _, _, rfl, rfl, SqT.of hy, rfl, rfl, ?_⟩
        rw [decI]
        refine ⟨_, rfl, true, rfl, iteF ?_⟩
        exact ⟨_, rfl, rfl, rfl, _, _, rfl, hh, hz1, hz2, _, rfl, y, _, _, _, rfl, rfl, SqT.of hy, rfl, _, rfl, y, _, _, _, rfl, rfl, SqT.of hy, rfl, _, _, rfl, rfl, fdiv_ok hz1 hz2, _, rfl, true, rfl, iteF ⟨rfl, _, rfl⟩⟩
      · rintro σ' H' ⟨rfl, v, rfl⟩
        exact k _ (E22.trans e23)
end
end K24
set_option maxRecDepth 100000
set_option maxHeartbeats 4000000
namespace K24
open PySem PySem.Spec PyProof.Rows L2 M24 Pre
section
variable {P : Program} {w : World} {K : PySem.W.Frag} {mg : Str → Option Value} {base : Heap}
/-! steps of the reading, by name -/
local macro_rules | `(tactic| walk_at "hx") => `(tactic| first | assumption | (refine' DrawsAt.ex ?ha ?hb; (case hb => assumption); (case ha => walk_at "hx")) | (refine' FracAt.ex ?ha ?hb; (case hb => assumption); (case ha => walk_at "hx")) | (refine' exg ?hb ?ha; (case hb => assumption); (case ha => walk_at "hx")))
local macro_rules | `(tactic| walk_at "sz") => `(tactic| first | assumption | (refine' Sz.mul ?sa ?sb; (case sa => walk_at "sz"); (case sb => walk_at "sz")) | (refine' Sz.add ?sa ?sb; (case sa => walk_at "sz"); (case sb => walk_at "sz")) | (refine' Sz.sub ?sa ?sb; (case sa => walk_at "sz"); (case sb => walk_at "sz")) | (refine' Sz.neg ?sa; (case sa => walk_at "sz")))
local macro_rules | `(tactic| walk_at "szm") => `(tactic| ((try dsimp only); refine' Sz.mono ?sa ?sb; (case sa => walk_at "sz"); (case sb => decide)))
local macro_rules | `(tactic| walk_at "ml") => `(tactic| (refine' mul_okE ?sa ?sb ?c0 ?c1 ?c2; (case sa => walk_at "sz"); (case sb => walk_at "sz"); (case c0 => decide); (case c1 => decide); (case c2 => decide)))
local macro_rules | `(tactic| walk_at "lit") => `(tactic| (show Int.natAbs _ < 2 ^ _; decide))
local macro_rules | `(tactic| walk_at "ex") => `(tactic| first | exact ex0 | assumption | (refine' Evl.Ex.trans ?ea ?eb; (case eb => assumption); (case ea => walk_at "ex")))
local macro_rules | `(tactic| walk_at "bd") => `(tactic| (refine' Sz.mono (m := 20) ?sa ?sb; (case sb => decide); (case sa => walk_at "lit")))

theorem addUp_take (B : Int) : ∀ (i : Nat) (fs : List (Int × Int)) (ns : List Int) (f : Int × Int) (n : Int), fs[i]? = some f → ns[i]? = some n → addUp B (fs.take (i + 1)) (ns.take (i + 1)) = addUp B (fs.take i) (ns.take i) + f.1 * B.fdiv f.2 * n
  | 0, g :: fs, m :: ns, f, n, h1, h2 => by
    have e1 : g = f := Option.some.inj h1
    have e2 : m = n := Option.some.inj h2
    subst e1 e2
    simp [addUp]
  | i + 1, g :: fs, m :: ns, f, n, h1, h2 => by
    have ih := addUp_take B i fs ns f n h1 h2
    show g.1 * B.fdiv g.2 * m + addUp B (fs.take (i + 1)) (ns.take (i + 1)) = g.1 * B.fdiv g.2 * m + addUp B (fs.take i) (ns.take i) + _
    rw [ih]
    omega
  | _, [], _, _, _, h, _ => by simp at h
  | _, _ :: _, [], _, _, _, h => by simp at h
theorem fracs_of {H : Hp} : ∀ {xs : List V}, (∀ (j : Nat) y, xs[j]? = some y → ∃ f, FracAt H y f ∧ Small f) → ∃ fs, Fracs H xs fs ∧ ∀ f, f ∈ fs → Small f
  | [], _ => ⟨[], ⟨rfl, fun i x f h => by simp at h⟩, fun f h => by cases h⟩
  | x :: xs, h => by
    obtain ⟨f, h1, h2⟩ := h 0 x rfl
    obtain ⟨fs, ⟨l, a⟩, b⟩ := fracs_of (xs := xs) fun j y hy => h (j + 1) y hy
    refine ⟨f :: fs, ⟨congrArg Nat.succ l, fun i y g hy hg => ?_⟩, fun g hg => ?_⟩
    · match i, hy, hg with
      | 0, hy, hg =>
        rw [← Option.some.inj hy, ← Option.some.inj hg]
        exact h1
      | i + 1, hy, hg => exact a i y g hy hg
    · rcases List.mem_cons.mp hg with e | e
      · rw [e]
        exact h2
      · exact b g e
theorem nums_of : ∀ {xs : List V}, (∀ (j : Nat) y, xs[j]? = some y → ∃ n, y = V.int n ∧ Sz 41 n) → ∃ ns : List Int, xs = ns.map V.int ∧ ∀ n, n ∈ ns → Sz 41 n
  | [], _ => ⟨[], rfl, fun f h => by cases h⟩
  | x :: xs, h => by
    obtain ⟨n, h1, h2⟩ := h 0 x rfl
    obtain ⟨ns, a, b⟩ := nums_of (xs := xs) fun j y hy => h (j + 1) y hy
    refine ⟨n :: ns, by rw [h1, a]; rfl, fun g hg => ?_⟩
    rcases List.mem_cons.mp hg with e | e
    · rw [e]
      exact h2
    · exact b g e
theorem small_of {b a c : Int} (b0 : 1 ≤ b) (b1 : b ≤ 1000000000) (a0 : 0 ≤ a) (a1 : a < 2 * b + 1) (c0 : 0 ≤ c) (c1 : c < b) : Small (red (a - b) (1 + c)) := by
  have h : 1 + c ≠ 0 := by omega
  refine ⟨(red_low h).pos, Sz.le (j := a - b) ?_ (red_le1 h), Sz.le (j := 1 + c) ?_ (red_le2 h)⟩
  · show (a - b).natAbs < 2147483648
    omega
  · show (1 + c).natAbs < 2147483648
    omega
theorem ok_law_rows (T : Tx K mg) : FnOk P w K mg base CX0 3 T.law_rows T.law_rows_fd ["draws"] spYes := by
  refine T.law_rows_F.ok sc_law_rows (fun vs H Q E h => ?_) (fun cdv A outer s H vs Q E hr h => ?_)
  · obtain ⟨d, rfl, _⟩ := h
    rfl
  · obtain ⟨d, rfl, hd, k⟩ := h
    refine ⟨_, (pss_cons (ps_asg (pe_call (ok_law_of T) (hr.mono (by decide)) (by rfl) T.law_of_m T.law_of_F.kp T.law_of_b .nil pass0 (pa_cons (pv 0) (pa_cons (pe_lst (pa_cons (pe_tup (pa_cons pe_int (pa_cons pe_int pa_nil))) (pa_cons (pe_tup (pa_cons pe_int (pa_cons pe_int pa_nil))) (pa_cons (pe_tup (pa_cons pe_int (pa_cons pe_int pa_nil))) (pa_cons (pe_tup (pa_cons pe_int (pa_cons (pe_op op_pow pe_int pe_int) pa_nil))) (pa_cons (pe_tup (pa_cons pe_int (pa_cons (pe_op op_pow pe_int pe_int) pa_nil))) (pa_cons (pe_tup (pa_cons pe_int (pa_cons pe_int pa_nil))) pa_nil))))))) pa_nil))) (pg_tup rfl (pgs_cons (pg_name (i := 1) sc_law_rows.nd rfl (Or.inl rfl)) (pgs_cons (pg_name (i := 2) sc_law_rows.nd rfl (Or.inr rfl)) pgs_nil))))
      (pss_cons (ps_setLc (i := 4) (own := [("at", 3)]) (g := gName 3) rfl sc_law_rows.nd rfl rfl (sw_true rfl rfl rfl (by decide +kernel)) (pi_range1 (by rfl) T.z_range (pa_cons (pv 1) pa_nil)) (blkOk_by (own := [("at", 3)]) (N := ["draws", "many", "most", "at", "some", "numbers", "total", "under", "bottom", "due", "handed", "beside"]) (sc := defScope s_law_rows) (by decide +kernel)) (fun _ _ _ _ _ => pg_name (i := 3) sc_law_rows.nd rfl (Or.inl rfl)) (fun _ _ _ _ _ => pts_nil) (fun _ _ _ _ _ => pe_call (ok_law_low T) (hr.mono (by decide)) (by rfl) T.law_low_m T.law_low_F.kp T.law_low_b .nil pass0 (pa_cons (pe_op op_sub (pe_call (ok_law_any T) (hr.mono (by decide)) (by rfl) T.law_any_m T.law_any_F.kp T.law_any_b .nil pass0 (pa_cons (pv 0) (pa_cons (pe_op op_add (pe_op op_mulW pe_int (pv 2)) pe_int) pa_nil))) (pv 2)) (pa_cons (pe_op op_add pe_int (pe_call (ok_law_any T) (hr.mono (by decide)) (by rfl) T.law_any_m T.law_any_F.kp T.law_any_b .nil pass0 (pa_cons (pv 0) (pa_cons (pv 2) pa_nil)))) pa_nil))))
      (pss_cons (ps_setLc (i := 5) (own := [("at", 3)]) (g := gName 3) rfl sc_law_rows.nd rfl rfl (sw_true rfl rfl rfl (by decide +kernel)) (pi_range1 (by rfl) T.z_range (pa_cons (pv 1) pa_nil)) (blkOk_by (own := [("at", 3)]) (N := ["draws", "many", "most", "at", "some", "numbers", "total", "under", "bottom", "due", "handed", "beside"]) (sc := defScope s_law_rows) (by decide +kernel)) (fun _ _ _ _ _ => pg_name (i := 3) sc_law_rows.nd rfl (Or.inl rfl)) (fun _ _ _ _ _ => pts_nil) (fun _ _ _ _ _ => pe_call (ok_law_of T) (hr.mono (by decide)) (by rfl) T.law_of_m T.law_of_F.kp T.law_of_b .nil pass0 (pa_cons (pv 0) (pa_cons (pe_lst (pa_cons pe_int (pa_cons pe_int (pa_cons (pe_un un_neg pe_int) (pa_cons (pe_call (ok_law_any T) (hr.mono (by decide)) (by rfl) T.law_any_m T.law_any_F.kp T.law_any_b .nil pass0 (pa_cons (pv 0) (pa_cons (pe_op op_pow pe_int pe_int) pa_nil))) (pa_cons (pe_un un_neg (pe_call (ok_law_any T) (hr.mono (by decide)) (by rfl) T.law_any_m T.law_any_F.kp T.law_any_b .nil pass0 (pa_cons (pv 0) (pa_cons (pe_op op_pow pe_int pe_int) pa_nil)))) pa_nil)))))) pa_nil))))
      (pss_cons (ps_asg (pe_tup (pa_cons pe_int (pa_cons pe_int (pa_cons pe_int pa_nil)))) (pg_tup rfl (pgs_cons (pg_name (i := 6) sc_law_rows.nd rfl (Or.inl rfl)) (pgs_cons (pg_name (i := 7) sc_law_rows.nd rfl (Or.inl rfl)) (pgs_cons (pg_name (i := 8) sc_law_rows.nd rfl (Or.inl rfl)) pgs_nil)))))
      (pss_cons (ps_for PassesOwn.never rfl (pi_range1 (by rfl) T.z_range (pa_cons (pv 1) pa_nil)) (pg_name (i := 3) sc_law_rows.nd rfl (Or.inl rfl)) (pss_cons (ps_set (i := 6) sc_law_rows.nd rfl (Or.inl rfl) (pe_op op_add (pe_op op_mulW (pv 6) (pe_ix ix_tup (pe_ix ix_list (pv 4) (pv 3) (fun _ _ => rfl)) pe_int (fun _ _ => rfl))) (pe_op op_mulW (pe_op op_mulW (pe_ix ix_tup (pe_ix ix_list (pv 4) (pv 3) (fun _ _ => rfl)) pe_int (fun _ _ => rfl)) (pe_ix ix_list (pv 5) (pv 3) (fun _ _ => rfl))) (pv 7))))
      (pss_cons (ps_set (i := 7) sc_law_rows.nd rfl (Or.inl rfl) (pe_op op_mulW (pv 7) (pe_ix ix_tup (pe_ix ix_list (pv 4) (pv 3) (fun _ _ => rfl)) pe_int (fun _ _ => rfl))))
      (pss_one (ps_set (i := 8) sc_law_rows.nd rfl (Or.inl rfl) (pe_op op_mulW (pv 8) (pe_ix ix_tup (pe_call (ok_law_low T) (hr.mono (by decide)) (by rfl) T.law_low_m T.law_low_F.kp T.law_low_b .nil pass0 (pa_cons (pe_ix ix_tup (pe_ix ix_list (pv 4) (pv 3) (fun _ _ => rfl)) pe_int (fun _ _ => rfl)) (pa_cons (pv 8) pa_nil))) pe_int (fun _ _ => rfl))))))))
      (pss_cons (ps_set (i := 9) sc_law_rows.nd rfl (Or.inl rfl) (pe_call (ok_law_low T) (hr.mono (by decide)) (by rfl) T.law_low_m T.law_low_F.kp T.law_low_b .nil pass0 (pa_cons (pv 6) (pa_cons (pv 7) pa_nil))))
      (pss_cons (ps_par (i := 10) (j := 11) (by rfl) sc_law_rows.nd rfl rfl (by decide) rfl rfl (pa_cons (pe_callTy call_list_of (by rfl) T.z_list (by decide +kernel) (pa_cons (pv 4) pa_nil)) (pa_cons (pe_callTy call_list_of (by rfl) T.z_list (by decide +kernel) (pa_cons (pv 5) pa_nil)) pa_nil)) (by rfl))
      (pss_cons (ps_if (PW.pt (pw_or (pt_not (pt_val (pe_call (ok_law_is T) (hr.mono (by decide)) (by rfl) T.law_is_m T.law_is_F.kp T.law_is_b .nil pass0 (pa_cons (pe_call (ok_worth T) (hr.mono (by decide)) (by rfl) T.worth_m T.worth_F.kp T.worth_b .nil pass0 (pa_cons (pv 10) (pa_cons (pv 11) pa_nil))) (pa_cons (pv 9) pa_nil))))) (pw_or1 (pt_not (pt_val (pe_call (ok_law_number_is T) (hr.mono (by decide)) (by rfl) T.law_number_is_m T.law_number_is_F.kp T.law_number_is_b .nil pass0 (pa_cons (pe_call (ok_bottom_of T) (hr.mono (by decide)) (by rfl) T.bottom_of_m T.bottom_of_F.kp T.bottom_of_b .nil pass0 (pa_cons (pv 10) pa_nil)) (pa_cons (pv 8) pa_nil)))))))) (pss_one (ps_ret pe_bl)) pss_nil)
      (pss_cons (ps_if (PW.pt (pw_or (pt_cmpR (op_neD hr.units) (pv 10) (pv 4) (nomark _)) (pw_or1 (pt_cmpR (op_neD hr.units) (pv 11) (pv 5) (nomark _))))) (pss_one (ps_ret pe_bl)) pss_nil)
      (pss_one (ps_ret (pe_and (pe_call (ok_law_is T) (hr.mono (by decide)) (by rfl) T.law_is_m T.law_is_F.kp T.law_is_b .nil pass0 (pa_cons (Pre.pe_callK0 (ok_worth T) (hr.mono (by decide)) (by rfl) T.worth_m T.worth_F.kp (kb_worth_numbers_fractions T.worth_F) pass0 (pk_cons (pe_callTy call_tuple_of (by rfl) T.z_tuple (by decide +kernel) (pa_cons (pv 5) pa_nil)) (pk_cons (pe_callTy call_tuple_of (by rfl) T.z_tuple (by decide +kernel) (pa_cons (pv 4) pa_nil)) pk_nil))) (pa_cons (pv 9) pa_nil))) (pe_one (pe_call (ok_law_number_is T) (hr.mono (by decide)) (by rfl) T.law_number_is_m T.law_number_is_F.kp T.law_number_is_b .nil pass0 (pa_cons (Pre.pe_callK0 (ok_bottom_of T) (hr.mono (by decide)) (by rfl) T.bottom_of_m T.bottom_of_F.kp (kb_bottom_of_fractions T.bottom_of_F) pass0 (pk_cons (pe_callTy call_tuple_of (by rfl) T.z_tuple (by decide +kernel) (pa_cons (pv 4) pa_nil)) pk_nil)) (pa_cons (pv 8) pa_nil)))))))))))))))), ?_⟩
    -- many, most = one of six
    refine ⟨_, rfl, (by show 2 ≤ sizeLine; decide), fun p1 n1 => ?_⟩
    generalize hg1 : upd H p1 _ = H1
    have e1 := newE hg1 n1
    have h1 := newP hg1
    refine ⟨(by show 2 ≤ sizeLine; decide), fun p2 n2 => ?_⟩
    generalize hg2 : upd H1 p2 _ = H2
    have e2 := newE hg2 n2
    have h2 := newP hg2
    refine ⟨(by show 2 ≤ sizeLine; decide), fun p3 n3 => ?_⟩
    generalize hg3 : upd H2 p3 _ = H3
    have e3 := newE hg3 n3
    have h3 := newP hg3
    refine ⟨_, _, rfl, rfl, (by show (0 : Int) ≤ 9 ∧ (9 : Int) ≤ 1000000 ∧ (10 : Int).natAbs < 2 ^ 64; decide), (by show 2 ≤ sizeLine; decide), fun p4 n4 => ?_⟩
    generalize hg4 : upd H3 p4 _ = H4
    have e4 := newE hg4 n4
    have h4 := newP hg4
    refine ⟨_, _, rfl, rfl, (by show (0 : Int) ≤ 6 ∧ (6 : Int) ≤ 1000000 ∧ (10 : Int).natAbs < 2 ^ 64; decide), (by show 2 ≤ sizeLine; decide), fun p5 n5 => ?_⟩
    generalize hg5 : upd H4 p5 _ = H5
    have e5 := newE hg5 n5
    have h5 := newP hg5
    refine ⟨(by show 2 ≤ sizeLine; decide), fun p6 n6 => ?_⟩
    generalize hg6 : upd H5 p6 _ = H6
    have e6 := newE hg6 n6
    have h6 := newP hg6
    refine ⟨(by show 6 ≤ sizeLine; decide), fun p7 n7 => ?_⟩
    generalize hg7 : upd H6 p7 _ = H7
    have e7 := newE hg7 n7
    have h7 := newP hg7
    have E7 : Ex H H7 := e1.trans (e2.trans (e3.trans (e4.trans (e5.trans (e6.trans e7)))))
    refine ⟨d, p7, _, rfl, hd.ex E7, SqL.of h7, by simp, by simp, fun x H8 e8 hx => ?_⟩
    obtain ⟨px, m, b, rfl, hpx, m0, m1, b0, b1⟩ : ∃ (px : Addr) (m : Nat) (b : Int), x = .ref px ∧ H8 px = some (.tup [.int (m : Int), .int b]) ∧ 0 ≤ m ∧ m ≤ 40 ∧ 1 ≤ b ∧ b ≤ 1000000000 := by
      have E18 : Ex H1 H8 := e2.trans (e3.trans (e4.trans (e5.trans (e6.trans (e7.trans e8)))))
      have E28 : Ex H2 H8 := e3.trans (e4.trans (e5.trans (e6.trans (e7.trans e8))))
      have E38 : Ex H3 H8 := e4.trans (e5.trans (e6.trans (e7.trans e8)))
      have E48 : Ex H4 H8 := e5.trans (e6.trans (e7.trans e8))
      have E58 : Ex H5 H8 := e6.trans (e7.trans e8)
      have E68 : Ex H6 H8 := e7.trans e8
      simp only [List.mem_cons, List.not_mem_nil, or_false] at hx
      rcases hx with h | h | h | h | h | h
      · exact ⟨p1, 0, 9, h, E18 _ _ h1, by decide, by decide, by decide, by decide⟩
      · exact ⟨p2, 1, 9, h, E28 _ _ h2, by decide, by decide, by decide, by decide⟩
      · exact ⟨p3, 5, 9, h, E38 _ _ h3, by decide, by decide, by decide, by decide⟩
      · exact ⟨p4, 14, 1000000000, h, E48 _ _ h4, by decide, by decide, by decide, by decide⟩
      · exact ⟨p5, 40, 1000000, h, E58 _ _ h5, by decide, by decide, by decide, by decide⟩
      · exact ⟨p6, 40, 12, h, E68 _ _ h6, by decide, by decide, by decide, by decide⟩
    have E8 : Ex H H8 := E7.trans e8
    clear E7 e1 e2 e3 e4 e5 e6 e7 e8 h1 h2 h3 h4 h5 h6 h7 hg1 hg2 hg3 hg4 hg5 hg6 hg7 n1 n2 n3 n4 n5 n6 n7 hx
    refine ⟨px, _, rfl, SqT.of hpx, rfl, _, _, rfl, _, _, rfl, rfl, ?_⟩
    have zb : Sz 31 b := by
      show b.natAbs < 2147483648
      omega
    have z2 : Sz 2 2 := by walk_at "lit"
    have zb2 : Sz 9000 (2 * b + 1) := Sz.mono (m := 40) (by show (2 * b + 1).natAbs < 1099511627776; omega) (by decide)
    -- some = [..]
    refine ⟨_, rfl, _, rfl, by omega, by omega, fun D nD => made_range (R := fun _ y H => ∃ f, FracAt H y f ∧ Small f) (fun _ _ _ _ e r => r.imp fun f q => ⟨q.1.ext e, q.2⟩) (by omega) (fun i H9 hi e9 Y hY => ?_) nD (fun H9 xs e9 hD hlen hxs => ?_)⟩
    · have E9 : Ex H H9 := E8.trans e9
      refine ⟨rfl, _, rfl, _, rfl, _, _, rfl, rfl, mul_ok z2 zb, _, _, rfl, rfl, d, _, rfl, hd.ex E9, by omega, zb2, fun a H10 e10 a0 a1 => ⟨_, rfl, _, _, rfl, rfl, _, rfl, _, rfl, d, b, rfl, (hd.ex E9).ex e10, by omega, zb.mono (by decide), fun c H11 e11 c0 c1 => ⟨_, _, rfl, rfl, _, _, rfl, by omega, Sz.mono (m := 31) (by show (a - b).natAbs < 2147483648; omega) (by decide), Sz.mono (m := 31) (by show (1 + c).natAbs < 2147483648; omega) (by decide), fun u H12 e12 hu => ?_⟩⟩⟩
      exact hY u H12 (e10.trans (e11.trans e12)) ⟨_, hu, small_of b0 b1 a0 a1 c0 c1⟩
    obtain ⟨fs, hfr, hsm⟩ := fracs_of hxs
    have fl : fs.length = m := by
      rw [← hfr.1, hlen]
      omega
    have E9 : Ex H H9 := E8.trans e9
    -- numbers = [..]
    refine ⟨_, rfl, _, rfl, by omega, by omega, fun N nN => made_range (R := fun _ y _ => ∃ n, y = V.int n ∧ Sz 41 n) (fun _ _ _ _ _ r => r) (by omega) (fun i H10 hi e10 Y hY => ?_) nN (fun H10 ys e10 hN hlen2 hys => ?_)⟩
    · have E10 : Ex H H10 := E9.trans e10
      have t6 : (10 : Int) ^ (6 : Int).toNat = 1000000 := by decide
      have t12 : (10 : Int) ^ (12 : Int).toNat = 1000000000000 := by decide
      refine ⟨rfl, _, rfl, _, rfl, _, rfl, _, _, rfl, rfl, (by show (0 : Int) ≤ 6 ∧ (6 : Int) ≤ 1000000 ∧ (10 : Int).natAbs < 2 ^ 64; decide), d, _, rfl, hd.ex E10, (by show (0 : Int) < 10 ^ (6 : Int).toNat; rw [t6]; decide), (by show Sz 9000 (10 ^ (6 : Int).toNat); rw [t6]; exact Sz.mono (m := 40) (by walk_at "lit") (by decide)), fun a H11 e11 a0 a1 => ⟨_, rfl, _, _, rfl, rfl, (by show (0 : Int) ≤ 12 ∧ (12 : Int) ≤ 1000000 ∧ (10 : Int).natAbs < 2 ^ 64; decide), d, _, rfl, (hd.ex E10).ex e11, (by show (0 : Int) < 10 ^ (12 : Int).toNat; rw [t12]; decide), (by show Sz 9000 (10 ^ (12 : Int).toNat); rw [t12]; exact Sz.mono (m := 41) (by walk_at "lit") (by decide)), fun c H12 e12 c0 c1 => ⟨_, rfl, (by show 5 ≤ sizeLine; decide), fun l nl => ?_⟩⟩⟩
      rw [t6] at a1
      rw [t12] at c1
      generalize hg13 : upd H12 l _ = H13
      have e13 := newE hg13 nl
      have hl13 := newP hg13
      refine ⟨d, l, _, rfl, ((hd.ex E10).ex e11).ex (e12.trans e13), SqL.of hl13, by simp, by simp, fun x H14 e14 hx => hY x H14 (e11.trans (e12.trans (e13.trans e14))) ?_⟩
      simp only [List.mem_cons, List.not_mem_nil, or_false] at hx
      rcases hx with h | h | h | h | h
      · exact ⟨0, h, by show (0 : Int).natAbs < 2 ^ 41; decide⟩
      · exact ⟨1, h, by show (1 : Int).natAbs < 2 ^ 41; decide⟩
      · exact ⟨-1, h, by show (-1 : Int).natAbs < 2 ^ 41; decide⟩
      · exact ⟨a, h, by show a.natAbs < 2199023255552; omega⟩
      · exact ⟨-c, h, by show (-c).natAbs < 2199023255552; omega⟩
    obtain ⟨ns, rfl, hnz⟩ := nums_of hys
    have nl : ns.length = m := by
      rw [List.length_map] at hlen2
      omega
    have hD10 := e10 _ _ hD
    have hfr10 := hfr.ex e10
    have E10 : Ex H H10 := E9.trans e10
    clear hxs hys
    obtain ⟨lp, lz⟩ := lcms_sz_all hsm (by omega)
    -- total, under, bottom
    refine ⟨(by show 3 ≤ sizeLine; decide), fun z nz => ?_⟩
    generalize hg11 : upd H10 z _ = H11
    have e11 := newE hg11 nz
    have hz11 := newP hg11
    have hD11 := e11 _ _ hD10
    have hN11 := e11 _ _ hN
    have hfr11 := hfr10.ex e11
    have E11 : Ex H H11 := E10.trans e11
    refine ⟨z, _, rfl, SqT.of hz11, rfl, _, _, rfl, _, _, rfl, _, _, rfl, rfl, _, rfl, _, rfl, by omega, by omega, for_range (lo := 0) (fun i σ' H' => Ex H11 H' ∧ ∃ t u v, σ' = [some (.ref d), some (.int m), some (.int b), v, some (.ref D), some (.ref N), some (.int t), some (.int u), some (.int (lcms (fs.take i))), none, none, none] ∧ 0 < u ∧ Sz (31 * i + 1) u ∧ Sz (32 * i + 75) t ∧ t * lcms fs = addUp (lcms fs) (fs.take i) (ns.take i) * u) ⟨ex0, 0, 1, none, rfl, by decide, by walk_at "lit", by show (0 : Int).natAbs < 2 ^ 75; decide, by simp [addUp]⟩ ?_ ?_⟩
    · rintro i σ' H12 hi ⟨e12, t, u, v, rfl, u0, uz, tz, eq⟩
      have hi' : i < fs.length := by omega
      have gf : fs[i]? = some fs[i] := List.getElem?_eq_getElem hi'
      have gn : ns[i]? = some (ns[i]'(by omega)) := List.getElem?_eq_getElem _
      have gx : xs[i]? = some (xs[i]'(by rw [hfr.1]; exact hi')) := List.getElem?_eq_getElem _
      obtain ⟨fp, f1z, f2z⟩ := hsm _ (List.getElem_mem hi')
      have nz := hnz _ (List.getElem_mem (show i < ns.length by omega))
      have ft := addUp_take (lcms fs) i fs ns _ _ gf gn
      have lt := lcms_take gf
      have fd := lcms_all (List.getElem_mem hi')
      obtain ⟨lip, liz⟩ := lcms_sz hsm i (by omega)
      obtain ⟨px2, hpe, hpx12⟩ := (hfr11.2 i _ _ gx gf).ex e12
      have gx' : xs[i]? = some (.ref px2) := by rw [gx, hpe]
      have hD12 := e12 _ _ hD11
      have hN12 := e12 _ _ hN11
      have gN : (ns.map V.int)[i]? = some (.int (ns[i]'(by omega))) := by
        rw [List.getElem?_map, gn]
        rfl
      have ei : (0 : Int) + (i : Int) = (i : Int) := Int.zero_add _
      have law := lcmStep_law lip fp
      generalize fs[i] = f at gf fp f1z f2z ft lt fd hpx12 law
      generalize (ns[i]'(by omega)) = n at gn nz ft gN
      have uz' : Sz 1300 u := uz.mono (by omega)
      have tz' : Sz 1400 t := tz.mono (by omega)
      have lz' : Sz 1300 (lcms (fs.take i)) := liz.mono (by omega)
      have tb := tz.mul f2z
      have tn := (f1z.mul nz).mul uz
      have tz2 : Sz (32 * (i + 1) + 75) (t * f.2 + f.1 * n * u) := by
        have q := (tb.mono (show _ ≤ 32 * i + 106 by omega)).add (tn.mono (show _ ≤ 32 * i + 106 by omega))
        refine q.mono ?_
        rw [Nat.max_self]
        omega
      have uz2 : Sz (31 * (i + 1) + 1) (u * f.2) := (uz.mul f2z).mono (by omega)
      have u2 : 0 < u * f.2 := Int.mul_pos u0 fp
      have rs := turn_sum (t := f.1) (n := n) fp fd eq
      rw [← ft] at rs
      have hbn : lcms (fs.take i) ≠ 0 := by omega
      refine ⟨_, rfl, _, rfl, _, rfl, D, _, _, _, rfl, rfl, SqL.of hD12, at_of (j := i) ei gx', px2, _, _, _, rfl, rfl, SqT.of hpx12, rfl, _, _, rfl, rfl, mul_ok tz' f2z,
        _, rfl, _, rfl, D, _, _, _, rfl, rfl, SqL.of hD12, at_of (j := i) ei gx', px2, _, _, _, rfl, rfl, SqT.of hpx12, rfl, _, rfl, _, rfl, N, _, _, _, rfl, rfl, SqL.of hN12, at_of (j := i) ei gN, _, _, rfl, rfl, mul_ok f1z nz, _, rfl, _, _, rfl, rfl, mul_ok (f1z.mul nz) uz', _, _, rfl, rfl, ?_⟩
      refine ⟨_, rfl, _, rfl, _, rfl, D, _, _, _, rfl, rfl, SqL.of hD12, at_of (j := i) ei gx', px2, _, _, _, rfl, rfl, SqT.of hpx12, rfl, _, _, rfl, rfl, mul_ok uz' f2z, ?_⟩
      refine ⟨_, rfl, _, rfl, _, rfl, D, _, _, _, rfl, rfl, SqL.of hD12, at_of (j := i) ei gx', px2, _, _, _, rfl, rfl, SqT.of hpx12, rfl, _, rfl, _, _, rfl, hbn, f2z.mono (by decide), lz'.mono (by decide), fun y H13 e13 hy => ?_⟩
      obtain ⟨py, rfl, hpy⟩ := hy
      have rz : Sz 31 (red f.2 (lcms (fs.take i))).1 := f2z.le (red_le1 hbn)
      refine ⟨py, _, _, _, rfl, rfl, SqT.of hpy, rfl, _, _, rfl, rfl, mul_ok lz' rz, e12.trans e13, _, _, some (V.int (0 + (i : Int))), ?_, u2, uz2, tz2, rs⟩
      rw [lt, ← law]
      rfl
    · rintro σ' H12 ⟨e12, t, u, v, rfl, u0, uz, tz, eq⟩
      have tk1 : fs.take ((m : Int).toNat) = fs := List.take_of_length_le (by omega)
      have tk2 : ns.take ((m : Int).toNat) = ns := List.take_of_length_le (by omega)
      rw [tk1, tk2] at eq
      have hun : u ≠ 0 := by omega
      have rd : red t u = red (addUp (lcms fs) fs ns) (lcms fs) := red_eq hun (by omega) eq
      have uz' : Sz 1300 u := uz.mono (by omega)
      have tz' : Sz 1400 t := tz.mono (by omega)
      -- due
      refine ⟨_, rfl, _, rfl, t, u, rfl, hun, tz'.mono (by decide), uz'.mono (by decide), fun due H13 e13 hdue => ?_⟩
      rw [rd] at hdue
      -- handed, beside
      have hD13 := (e12.trans e13) _ _ hD11
      have hN13 := (e12.trans e13) _ _ hN11
      have hfr13 := hfr11.ex (e12.trans e13)
      have E13 : Ex H H13 := E11.trans (e12.trans e13)
      refine ⟨_, rfl, D, xs, rfl, .inl (SqL.of hD13), fun D2 nD2 => ?_⟩
      generalize hg14 : upd H13 D2 _ = H14
      have e14 := newE hg14 nD2
      have hD2 := newP hg14
      refine ⟨_, rfl, N, _, rfl, .inl (SqL.of (e14 _ _ hN13)), fun N2 nN2 => ⟨_, _, rfl, ?_⟩⟩
      generalize hg15 : upd H14 N2 _ = H15
      have e15 := newE hg15 nN2
      have hN2 := newP hg15
      have e35 : Ex H13 H15 := e14.trans e15
      have E15 : Ex H H15 := E13.trans e35
      have hD15 := e35 _ _ hD13
      have hN15 := e35 _ _ hN13
      have hfr15 := hfr13.ex e35
      have hdue15 := hdue.ex e35
      have hD2' := e15 _ _ hD2
      have l40 : fs.length ≤ 40 := by omega
      have nfl : ns.length = fs.length := by omega
      -- _law_is(worth(handed, beside), due), bottom_of
      refine ⟨_, rfl, _, rfl, D2, N2, xs, fs, ns, rfl, .inl (SqL.of hD2'), hfr15, .inl (SqL.of hN2), nfl, l40, hsm, hnz, fun y H16 e16 hy => ⟨_, rfl, _, _, _, rfl, hy, hdue15.ex e16, true, rfl, iteF ?_⟩⟩
      rw [tk1]
      refine ⟨_, rfl, D2, xs, fs, rfl, .inl (SqL.of (e16 _ _ hD2')), hfr15.ex e16, l40, hsm, _, rfl, _, rfl, true, rfl, iteF ?_⟩
      -- handed != some or beside != numbers
      have dpp : ∀ {H' : Hp}, Ex H15 H' → DpAll K H' xs (fs.map Pre.pairD) := fun e => dp_pairs hfr15.1 fun i x f a b => (hfr15.2 i x f a b).ex e
      refine ⟨_, rfl, _, rfl, _, _, .lst (SqL.of (e16 _ _ hD2')) (dpp e16), .lst (SqL.of (e16 _ _ hD15)) (dpp e16), shaped_pairs fs, shaped_pairs fs, ?_⟩
      rw [eqv_pairs]
      refine ⟨_, rfl, iteF ⟨_, rfl, _, rfl, _, _, .lst (SqL.of (e16 _ _ hN2)) (dp_ints ns), .lst (SqL.of (e16 _ _ hN15)) (dp_ints ns), shaped_ints ns, shaped_ints ns, ?_⟩⟩
      rw [eqv_ints]
      refine ⟨_, rfl, iteF ?_⟩
      -- by keywords, from tuples
      refine ⟨_, rfl, N, _, rfl, .inl ⟨SqL.of (e16 _ _ hN15), fun N3 nN3 => ?_⟩⟩
      generalize hg17 : upd H16 N3 _ = H17
      have e17 := newE hg17 nN3
      have hN3 := newP hg17
      refine ⟨_, rfl, D, _, rfl, .inl ⟨SqL.of (e17 _ _ (e16 _ _ hD15)), fun D3 nD3 => ?_⟩⟩
      generalize hg18 : upd H17 D3 _ = H18
      have e18 := newE hg18 nD3
      have hD3 := newP hg18
      have e58 : Ex H15 H18 := e16.trans (e17.trans e18)
      refine ⟨rfl, rfl, D3, N3, xs, fs, ns, rfl, .inr (SqT.of hD3), hfr15.ex e58, .inr (SqT.of (e18 _ _ hN3)), nfl, l40, hsm, hnz, fun y2 H19 e19 hy2 => ⟨_, rfl, _, _, _, rfl, hy2, (hdue15.ex e58).ex e19, true, rfl, iteT ?_⟩⟩
      refine ⟨_, rfl, D, _, rfl, .inl ⟨SqL.of (e19 _ _ (e58 _ _ hD15)), fun D4 nD4 => ?_⟩⟩
      generalize hg20 : upd H19 D4 _ = H20
      have e20 := newE hg20 nD4
      have hD4 := newP hg20
      exact ⟨rfl, rfl, D4, xs, fs, rfl, .inr (SqT.of hD4), hfr15.ex (e58.trans (e19.trans e20)), l40, hsm, _, rfl, _, rfl, k _ (E15.trans (e58.trans (e19.trans e20)))⟩
end
end K24
set_option maxRecDepth 100000
set_option maxHeartbeats 4000000
namespace K24
open PySem PySem.Spec PyProof.Rows L2 M24 Pre
section
variable {P : Program} {w : World} {K : PySem.W.Frag} {mg : Str → Option Value} {base : Heap}
/-! steps of the reading, by name -/
local macro_rules | `(tactic| walk_at "hx") => `(tactic| first | assumption | (refine' DrawsAt.ex ?ha ?hb; (case hb => assumption); (case ha => walk_at "hx")) | (refine' FracAt.ex ?ha ?hb; (case hb => assumption); (case ha => walk_at "hx")) | (refine' exg ?hb ?ha; (case hb => assumption); (case ha => walk_at "hx")))
local macro_rules | `(tactic| walk_at "sz") => `(tactic| first | assumption | (refine' Sz.mul ?sa ?sb; (case sa => walk_at "sz"); (case sb => walk_at "sz")) | (refine' Sz.add ?sa ?sb; (case sa => walk_at "sz"); (case sb => walk_at "sz")) | (refine' Sz.sub ?sa ?sb; (case sa => walk_at "sz"); (case sb => walk_at "sz")) | (refine' Sz.neg ?sa; (case sa => walk_at "sz")))
local macro_rules | `(tactic| walk_at "szm") => `(tactic| ((try dsimp only); refine' Sz.mono ?sa ?sb; (case sa => walk_at "sz"); (case sb => decide)))
local macro_rules | `(tactic| walk_at "ml") => `(tactic| (refine' mul_okE ?sa ?sb ?c0 ?c1 ?c2; (case sa => walk_at "sz"); (case sb => walk_at "sz"); (case c0 => decide); (case c1 => decide); (case c2 => decide)))
local macro_rules | `(tactic| walk_at "lit") => `(tactic| (show Int.natAbs _ < 2 ^ _; decide))
local macro_rules | `(tactic| walk_at "ex") => `(tactic| first | exact ex0 | assumption | (refine' Evl.Ex.trans ?ea ?eb; (case eb => assumption); (case ea => walk_at "ex")))
local macro_rules | `(tactic| walk_at "bd") => `(tactic| (refine' Sz.mono (m := 20) ?sa ?sb; (case sb => decide); (case sa => walk_at "lit")))

theorem last_V {us : List V} (h : us ≠ []) : ∃ u, us[us.length - 1]? = some u ∧ atI us (-1) = some u ∧ us = us.dropLast ++ [u] := by
  have e : us = us.dropLast ++ [us.getLast h] := (List.dropLast_concat_getLast h).symm
  refine ⟨us.getLast h, ?_, ?_, e⟩
  · rw [← List.getLast?_eq_getElem?, List.getLast?_eq_getLast h]
  · have a := atI_last us.dropLast (us.getLast h)
    rw [← e] at a
    exact a
/-- the quotients from the last one on -/
def rs (qs : List Int) (j : Nat) : Int := qs.getD (qs.length - 1 - j) 0
theorem rs_at {qs : List Int} {i : Nat} {q : Int} (h : qs[i]? = some q) : rs qs (qs.length - 1 - i) = q := by
  have hi := (List.getElem?_eq_some_iff.mp h).1
  unfold rs
  rw [show qs.length - 1 - (qs.length - 1 - i) = i by omega, List.getD_eq_getElem?_getD, h]
  rfl
theorem rs_get {qs : List Int} {j : Nat} (h : j < qs.length) : qs[qs.length - 1 - j]? = some (rs qs j) := by
  unfold rs
  rw [List.getD_eq_getElem?_getD, List.getElem?_eq_getElem (show qs.length - 1 - j < qs.length by omega)]
  rfl
/-- what the quotients keep: all but the first and the last are above 0, the last one above 1 -/
structure Qs (s m : Nat) (qs : List Int) : Prop where
  len : qs.length = m
  mid : ∀ (i : Nat) (z : Int), qs[i]? = some z → 1 ≤ i → i + 1 < m → 1 ≤ z
  last : 1 < m → ∀ z, qs[m - 1]? = some z → 2 ≤ z
  size : ∀ z, z ∈ qs → Sz (s - 1) z
theorem Qs.h0 {s m : Nat} {qs : List Int} (h : Qs s m qs) : 1 < m → 2 ≤ rs qs 0 := fun hm => h.last hm _ (by
  have e := rs_get (qs := qs) (j := 0) (by rw [h.len]; omega)
  rw [h.len] at e
  exact e)
theorem Qs.h1 {s m : Nat} {qs : List Int} (h : Qs s m qs) : ∀ j, 1 ≤ j → j + 1 < m → 1 ≤ rs qs j := fun j a b => h.mid _ _ (rs_get (by rw [h.len]; omega)) (by rw [h.len]; omega) (by rw [h.len]; omega)
theorem Qs.sz {s m : Nat} {qs : List Int} (h : Qs s m qs) {j : Nat} (hj : j < m) : Sz (s - 1) (rs qs j) := h.size _ (List.mem_of_getElem? (rs_get (by rw [h.len]; exact hj)))
theorem tl_sz {s m : Nat} {r : Nat → Int} (hs : 2 ≤ s) (hq : ∀ j, j < m → Sz (s - 1) (r j)) : ∀ j, j < m → Sz (s * (j + 1)) (tl r j).1 ∧ Sz (s * (j + 1)) (tl r j).2
  | 0, h => by
    have e : s * (0 + 1) = s := by omega
    rw [e]
    refine ⟨(hq 0 h).mono (by omega), Sz.mono (m := 1) (by show (1 : Int).natAbs < 2 ^ 1; decide) (by omega)⟩
  | j + 1, h => by
    obtain ⟨a, b⟩ := tl_sz hs hq j (by omega)
    have q := hq (j + 1) h
    have e : s * (j + 1 + 1) = s * (j + 1) + s := by rw [Nat.mul_succ]
    rw [e]
    refine ⟨?_, a.mono (by omega)⟩
    have z := ((q.mul a).mono (show s - 1 + s * (j + 1) ≤ s * (j + 1) + s - 1 by omega)).add (b.mono (show s * (j + 1) ≤ s * (j + 1) + s - 1 by omega))
    exact z.mono (by rw [Nat.max_self]; omega)
theorem tl_sz4 {s m : Nat} {qs : List Int} (h : Qs s m qs) (hs : 2 ≤ s) (hm : s * m ≤ 2110) {j : Nat} (hj : j < m) : Sz 2110 (tl (rs qs) j).1 ∧ Sz 2110 (tl (rs qs) j).2 := by
  have z := tl_sz hs (fun j hj => h.sz hj) j hj
  have l : s * (j + 1) ≤ s * m := Nat.mul_le_mul_left s (by omega)
  exact ⟨z.1.mono (by omega), z.2.mono (by omega)⟩
theorem ok_law_apart (T : Tx K mg) : FnOk P w K mg base CX0 4 T.law_apart T.law_apart_fd ["draws"] spYes := by
  refine T.law_apart_F.ok sc_law_apart (fun vs H Q E h => ?_) (fun cdv A outer s H vs Q E hr h => ?_)
  · obtain ⟨d, rfl, _⟩ := h
    rfl
  · obtain ⟨d, rfl, hd, k⟩ := h
    refine ⟨_, (pss_cons (ps_set (i := 1) sc_law_apart.nd rfl (Or.inr rfl) (pe_cmpR op_eq (pe_call (ok_law_any T) (hr.mono (by decide)) (by rfl) T.law_any_m T.law_any_F.kp T.law_any_b .nil pass0 (pa_cons (pv 0) (pa_cons pe_int pa_nil))) pe_int (nomark _)))
      (Evl.pss_cut (ps_set (i := 2) sc_law_apart.nd rfl (Or.inl rfl) (pe_op op_add pe_int (pe_call (ok_law_any T) (hr.mono (by decide)) (by rfl) T.law_any_m T.law_any_F.kp T.law_any_b .nil pass0 (pa_cons (pv 0) (pa_cons (pe_ifExp (pt_val (pv 1)) pe_int pe_int) pa_nil)))))
      (Evl.pss_cut (ps_setLc (i := 4) (own := [("at", 3)]) (g := gName 3) rfl sc_law_apart.nd rfl rfl (sw_true rfl rfl rfl (by decide +kernel)) (pi_range1 (by rfl) T.z_range (pa_cons (pv 2) pa_nil)) (blkOk_by (own := [("at", 3)]) (N := ["draws", "great", "many", "at", "parts", "part", "tails", "common", "value", "rest"]) (sc := defScope s_law_apart) (by decide +kernel)) (fun _ _ _ _ _ => pg_name (i := 3) sc_law_apart.nd rfl (Or.inl rfl)) (fun _ _ _ _ _ => pts_nil) (fun _ _ _ _ _ => pe_op op_add pe_int (pe_ifExp (pt_val (pv 1)) (pe_call (ok_law_big T) (hr.mono (by decide)) (by rfl) T.law_big_m T.law_big_F.kp T.law_big_b .nil pass0 (pa_cons (pv 0) pa_nil)) (pe_call (ok_law_any T) (hr.mono (by decide)) (by rfl) T.law_any_m T.law_any_F.kp T.law_any_b .nil pass0 (pa_cons (pv 0) (pa_cons pe_int pa_nil))))))
      (Evl.pss_cut (ps_set (i := 4) sc_law_apart.nd rfl (Or.inl rfl) (pe_op op_cat (pe_lc (own := [("part", 5)]) (g := gName 5) rfl sc_law_apart.nd (pi_list (pe_slice sl_list (pv 4) po_none (po_some (pe_un un_neg pe_int)))) (blkOk_by (own := [("part", 5)]) (N := ["draws", "great", "many", "at", "parts", "part", "tails", "common", "value", "rest"]) (sc := defScope s_law_apart) (by decide +kernel)) (fun _ _ _ _ _ => pg_name (i := 5) sc_law_apart.nd rfl (Or.inl rfl)) (fun _ _ _ _ _ => pts_nil) (fun _ _ _ _ _ => pe_op op_sub (pv 5) pe_int)) (pe_slice sl_list (pv 4) (po_some (pe_un un_neg pe_int)) po_none)))
      (Evl.pss_cut (ps_asg (pe_call (ok_law_of T) (hr.mono (by decide)) (by rfl) T.law_of_m T.law_of_F.kp T.law_of_b .nil pass0 (pa_cons (pv 0) (pa_cons (pe_lst (pa_cons (pe_ix ix_list (pv 4) pe_int (fun _ _ => rfl)) (pa_cons (pe_un un_neg (pe_ix ix_list (pv 4) pe_int (fun _ _ => rfl))) (pa_cons pe_int pa_nil)))) pa_nil))) (pg_sub (pv 4) pe_int set_list))
      (pss_cons (ps_set (i := 6) sc_law_apart.nd rfl (Or.inl rfl) (pe_lst (pa_cons (pe_tup (pa_cons (pe_ix ix_list (pv 4) (pe_un un_neg pe_int) (fun _ _ => rfl)) (pa_cons pe_int pa_nil))) pa_nil)))
      (Evl.pss_cut (ps_for PassesOwn.never rfl (pi_list (pe_revL (pe_slice sl_list (pv 4) po_none (po_some (pe_un un_neg pe_int))))) (pg_name (i := 5) sc_law_apart.nd rfl (Or.inl rfl)) (pss_one (ps_expr (pe_bm PySem.F.plainAttrs_list PySem.F.slot_list_append PySem.F.type_list_append mt_append (pv 6) (pa_cons (pe_tup (pa_cons (pe_op op_add (pe_op op_mulW (pv 5) (pe_ix ix_tup (pe_ix ix_list (pv 6) (pe_un un_neg pe_int) (fun _ _ => rfl)) pe_int (fun _ _ => rfl))) (pe_ix ix_tup (pe_ix ix_list (pv 6) (pe_un un_neg pe_int) (fun _ _ => rfl)) pe_int (fun _ _ => rfl))) (pa_cons (pe_ix ix_tup (pe_ix ix_list (pv 6) (pe_un un_neg pe_int) (fun _ _ => rfl)) pe_int (fun _ _ => rfl)) pa_nil))) pa_nil)))))
      (pss_cons (ps_set (i := 7) sc_law_apart.nd rfl (Or.inl rfl) (pe_op op_add pe_int (pe_call (ok_law_any T) (hr.mono (by decide)) (by rfl) T.law_any_m T.law_any_F.kp T.law_any_b .nil pass0 (pa_cons (pv 0) (pa_cons pe_int pa_nil)))))
      (pss_cons (ps_set (i := 8) sc_law_apart.nd rfl (Or.inl rfl) (pe_call (ok_fraction T) (hr.mono (by decide)) (by rfl) T.fraction_m T.fraction_F.kp T.fraction_b .nil pass0 (pa_cons (pe_op op_mulW (pe_ix ix_tup (pe_ix ix_list (pv 6) (pe_un un_neg pe_int) (fun _ _ => rfl)) pe_int (fun _ _ => rfl)) (pv 7)) (pa_cons (pe_op op_mulW (pe_ix ix_tup (pe_ix ix_list (pv 6) (pe_un un_neg pe_int) (fun _ _ => rfl)) pe_int (fun _ _ => rfl)) (pv 7)) pa_nil))))
      (pss_cons (ps_for PassesOwn.never rfl (pi_range1 (by rfl) T.z_range (pa_cons (pv 2) pa_nil)) (pg_name (i := 3) sc_law_apart.nd rfl (Or.inl rfl)) (pss_cons (ps_if (PW.pt (pw_or (pt_not (pt_val (pe_call (ok_law_is T) (hr.mono (by decide)) (by rfl) T.law_is_m T.law_is_F.kp T.law_is_b .nil pass0 (pa_cons (pv 8) (pa_cons (pe_ix ix_list (pv 6) (pe_op op_sub (pe_op op_sub (pv 2) pe_int) (pv 3)) (fun _ _ => rfl)) pa_nil))))) (pw_or1 (pt_not (pt_val (pe_call (ok_law_number_is T) (hr.mono (by decide)) (by rfl) T.law_number_is_m T.law_number_is_F.kp T.law_number_is_b .nil pass0 (pa_cons (pe_call (ok_floor_of T) (hr.mono (by decide)) (by rfl) T.floor_of_m T.floor_of_F.kp T.floor_of_b .nil pass0 (pa_cons (pv 8) pa_nil)) (pa_cons (pe_ix ix_list (pv 4) (pv 3) (fun _ _ => rfl)) pa_nil)))))))) (pss_one (ps_ret pe_bl)) pss_nil)
      (pss_cons (ps_set (i := 9) sc_law_apart.nd rfl (Or.inl rfl) (pe_call (ok_less T) (hr.mono (by decide)) (by rfl) T.less_m T.less_F.kp T.less_b .nil pass0 (pa_cons (pv 8) (pa_cons (pe_call (ok_fraction T) (hr.mono (by decide)) (by rfl) T.fraction_m T.fraction_F.kp T.fraction_b .nil pass0 (pa_cons (pe_ix ix_list (pv 4) (pv 3) (fun _ _ => rfl)) (pa_cons pe_int pa_nil))) pa_nil))))
      (pss_cons (ps_if (pt_cmpR op_eq (pv 3) (pe_op op_sub (pv 2) pe_int) (nomark _)) (pss_one (ps_ret (pe_and (pe_call (ok_law_is T) (hr.mono (by decide)) (by rfl) T.law_is_m T.law_is_F.kp T.law_is_b .nil pass0 (pa_cons (pv 9) (pa_cons (pe_tup (pa_cons pe_int (pa_cons pe_int pa_nil))) pa_nil))) (pe_one (pe_call (ok_law_flag_is T) (hr.mono (by decide)) (by rfl) T.law_flag_is_m T.law_flag_is_F.kp T.law_flag_is_b .nil pass0 (pa_cons (pe_call (ok_is_whole T) (hr.mono (by decide)) (by rfl) T.is_whole_m T.is_whole_F.kp T.is_whole_b .nil pass0 (pa_cons (pv 8) pa_nil)) (pa_cons pe_bl pa_nil))))))) pss_nil)
      (pss_cons (ps_if (PW.pt (pw_or (pt_not (pt_val (pe_call (ok_law_flag_is T) (hr.mono (by decide)) (by rfl) T.law_flag_is_m T.law_flag_is_F.kp T.law_flag_is_b .nil pass0 (pa_cons (pe_call (ok_is_whole T) (hr.mono (by decide)) (by rfl) T.is_whole_m T.is_whole_F.kp T.is_whole_b .nil pass0 (pa_cons (pv 8) pa_nil)) (pa_cons pe_bl pa_nil))))) (pw_or1 (pt_not (pt_val (pe_call (ok_law_number_is T) (hr.mono (by decide)) (by rfl) T.law_number_is_m T.law_number_is_F.kp T.law_number_is_b .nil pass0 (pa_cons (pe_call (ok_compared T) (hr.mono (by decide)) (by rfl) T.compared_m T.compared_F.kp T.compared_b .nil pass0 (pa_cons (pv 9) (pa_cons (pe_tup (pa_cons pe_int (pa_cons pe_int pa_nil))) pa_nil))) (pa_cons (pe_un un_neg pe_int) pa_nil)))))))) (pss_one (ps_ret pe_bl)) pss_nil)
      (pss_one (ps_set (i := 8) sc_law_apart.nd rfl (Or.inl rfl) (pe_call (ok_divided T) (hr.mono (by decide)) (by rfl) T.divided_m T.divided_F.kp T.divided_b .nil pass0 (pa_cons (pe_tup (pa_cons pe_int (pa_cons pe_int pa_nil))) (pa_cons (pv 9) pa_nil))))))))))
      (pss_one (ps_ret pe_bl)))))))))))), ?_⟩
    -- great, many
    refine ⟨_, rfl, d, 3, rfl, hd, by decide, (by walk_at "bd"), fun v H1 e1 _ _ => ⟨rfl, ?_⟩⟩
    generalize decide (V.int v = V.int 0) = g
    refine ⟨fun σ' H' => Ex H H' ∧ ∃ m s : Nat, 1 ≤ m ∧ s * m ≤ 2110 ∧ (8 ≤ s ∧ s ≤ 422) ∧ (g = true → s = 422) ∧ m ≤ 24 ∧ ∃ mi, mi = (m : Int) ∧ σ' = [some (.ref d), some (.bl g), some (.int mi), none, none, none, none, none, none, none], ?_, ?_⟩
    · refine ⟨_, rfl, _, rfl, _, rfl, ?_⟩
      cases g with
      | true =>
        refine iteT ⟨d, 5, rfl, hd.ex e1, by decide, (by walk_at "bd"), fun v2 H2 e2 v0 v1 => ⟨_, _, rfl, rfl, e1.trans e2, (1 + v2).toNat, 422, by omega, by omega, ⟨by decide, by decide⟩, fun _ => rfl, by omega, _, ?_, rfl⟩⟩
        omega
      | false =>
        refine iteF ⟨d, 24, rfl, hd.ex e1, by decide, (by walk_at "bd"), fun v2 H2 e2 v0 v1 => ⟨_, _, rfl, rfl, e1.trans e2, (1 + v2).toNat, 8, by omega, by omega, ⟨by decide, by decide⟩, fun q => (Bool.false_ne_true q).elim, by omega, _, ?_, rfl⟩⟩
        omega
    rintro σ' H2 ⟨E2, m, sz, m1, sm, ⟨s8, s9⟩, gs, m24, mi, rfl, rfl⟩
    clear e1
    -- parts = [..]
    refine ⟨fun σ' H' => Ex H H' ∧ ∃ (P : Addr) (zs : List Int), H' P = some (.lst (zs.map V.int)) ∧ zs.length = m ∧ (∀ z, z ∈ zs → 2 ≤ z ∧ Sz (sz - 2) z) ∧ σ' = [some (.ref d), some (.bl g), some (.int m), none, some (.ref P), none, none, none, none, none], ?_, ?_⟩
    · refine ⟨_, rfl, _, rfl, by omega, by omega, fun P nP => made_range (R := fun _ y _ => ∃ z, y = V.int z ∧ 2 ≤ z ∧ Sz (sz - 2) z) (fun _ _ _ _ _ r => r) (by omega) (fun i H3 hi e3 Y hY => ?_) nP (fun H3 ys e3 hP hlen hys => ?_)⟩
      · refine ⟨rfl, _, rfl, _, rfl, ?_⟩
        cases g with
        | true =>
          have s422 := gs rfl
          subst s422
          refine iteT ⟨_, rfl, d, rfl, (hd.ex E2).ex e3, fun v H4 e4 v0 vz => ⟨_, _, rfl, rfl, hY _ _ e4 ⟨_, rfl, by omega, ?_⟩⟩⟩
          exact ((show Sz 2 2 by walk_at "lit").add vz).mono (by decide)
        | false =>
          refine iteF ⟨_, rfl, d, 60, rfl, (hd.ex E2).ex e3, by decide, (by walk_at "bd"), fun v H4 e4 v0 v1 => ⟨_, _, rfl, rfl, hY _ _ e4 ⟨_, rfl, by omega, Sz.mono (m := 6) ?_ (by omega)⟩⟩⟩
          show (2 + v).natAbs < 64
          omega
      · obtain ⟨zs, rfl, hz⟩ : ∃ zs : List Int, ys = zs.map V.int ∧ ∀ z, z ∈ zs → 2 ≤ z ∧ Sz (sz - 2) z := by
          clear hP hlen
          induction ys with
          | nil => exact ⟨[], rfl, fun z h => by cases h⟩
          | cons y ys ih =>
            obtain ⟨z, rfl, h2⟩ := hys 0 y rfl
            obtain ⟨zs, e, h3⟩ := ih fun j y hy => hys (j + 1) y hy
            refine ⟨z :: zs, by rw [e]; rfl, fun w hw => ?_⟩
            rcases List.mem_cons.mp hw with q | q
            · rw [q]
              exact h2
            · exact h3 w q
        exact ⟨E2.trans e3, P, zs, hP, by rw [List.length_map] at hlen; omega, hz, rfl⟩
    rintro σ' H3 ⟨E3, P0, zs, hP0, zl, hz, rfl⟩
    -- all but the last one less
    refine ⟨fun σ' H' => Ex H H' ∧ ∃ (P : Addr) (qs : List Int), H P = none ∧ H' P = some (.lst (qs.map V.int)) ∧ Qs sz m qs ∧ σ' = [some (.ref d), some (.bl g), some (.int m), none, some (.ref P), none, none, none, none, none], ?_, ?_⟩
    · have zne : zs ≠ [] := fun q => by
        rw [q] at zl
        simp at zl
        omega
      obtain ⟨zn, hzn, _, _, zee⟩ := last_int zne
      refine ⟨_, rfl, _, rfl, _, rfl, P0, _, rfl, SqL.of hP0, fun p1 n1 => ?_⟩
      rw [cut_init]
      generalize hg4 : upd H3 p1 _ = H4
      have e4 := newE hg4 n1
      have h1 := newP hg4
      rw [← List.map_dropLast] at h1
      have dl : zs.dropLast.length = m - 1 := by
        rw [List.length_dropLast, zl]
      refine ⟨p1, rfl, ⟨_, SqL.of h1⟩, fun Dl nDl => made_list (K := K) (R := fun i y _ => ∃ z, (zs.dropLast.map fun z => z - 1)[i]? = some z ∧ y = V.int z) (fun _ _ _ _ _ r => r) (SqL.of h1) (by rw [List.length_map, dl]; omega) (fun i x H5 hx e5 Y hY => ?_) nDl (fun H5 ys e5 hDl hlen hys => ?_)⟩
      · rw [List.getElem?_map] at hx
        obtain ⟨z, hz1, rfl⟩ := Option.map_eq_some_iff.mp hx
        exact ⟨rfl, _, rfl, _, _, rfl, rfl, hY _ _ ex0 ⟨_, by rw [List.getElem?_map, hz1]; rfl, rfl⟩⟩
      · have ye : ys = (zs.dropLast.map fun z => z - 1).map V.int := ints_of (by rw [hlen, List.length_map, List.length_map]) hys
        subst ye
        have hP5 := e5 _ _ (e4 _ _ hP0)
        refine ⟨_, rfl, _, rfl, _, rfl, P0, _, rfl, SqL.of hP5, fun p2 n2 => ?_⟩
        rw [zee, List.map_append, List.map_singleton, cut_last]
        generalize hg6 : upd H5 p2 _ = H6
        have e6 := newE hg6 n2
        have h2 := newP hg6
        have hDl6 := e6 _ _ hDl
        refine ⟨Dl, p2, _, _, rfl, rfl, hDl6, h2, Nat.le_of_lt (small1000 (by rw [List.length_map, List.length_map, dl]; show m - 1 + 1 ≤ 1000; omega)), fun P nP => ?_⟩
        have E6 : Ex H H6 := E3.trans (e4.trans (e5.trans e6))
        refine ⟨E6.trans (exn nP), P, (zs.dropLast.map fun z => z - 1) ++ [zn], Evl.fresh_back E6 nP, by rw [List.map_append, List.map_singleton]; exact upd_same, ⟨?_, ?_, ?_, ?_⟩, rfl⟩
        · rw [List.length_append, List.length_map, dl]
          show m - 1 + 1 = m
          omega
        · intro i z hi _ h2
          rw [List.getElem?_append_left (by rw [List.length_map, dl]; omega), List.getElem?_map] at hi
          obtain ⟨y, hy, rfl⟩ := Option.map_eq_some_iff.mp hi
          have := (hz y (List.dropLast_subset _ (List.mem_of_getElem? hy))).1
          omega
        · intro _ z hi
          rw [List.getElem?_append_right (by rw [List.length_map, dl]; exact Nat.le_refl _), List.length_map, dl, Nat.sub_self] at hi
          rw [← Option.some.inj hi]
          exact (hz zn hzn).1
        · intro z hm
          rcases List.mem_append.mp hm with q | q
          · obtain ⟨y, hy, rfl⟩ := List.mem_map.mp q
            obtain ⟨y2, ys⟩ := hz y (List.dropLast_subset _ hy)
            exact Sz.le (j := y) (ys.mono (by omega)) (by omega)
          · rw [List.mem_singleton.mp q]
            exact (hz zn hzn).2.mono (by omega)
    rintro σ' H4 ⟨E4, P, qs0, nP, hP, q0, rfl⟩
    clear hP0 hz zl E3
    -- the first one turned, perhaps
    refine ⟨fun σ' H' => Ex H H' ∧ ∃ (qs : List Int), H' P = some (.lst (qs.map V.int)) ∧ Qs sz m qs ∧ σ' = [some (.ref d), some (.bl g), some (.int m), none, some (.ref P), none, none, none, none, none], ?_, ?_⟩
    · have l0 : 0 < qs0.length := by rw [q0.len]; omega
      have g0 : qs0[0]? = some qs0[0] := List.getElem?_eq_getElem l0
      have g0' : atI (qs0.map V.int) 0 = some (.int qs0[0]) := atI_nat (j := 0) (by rw [List.getElem?_map, g0]; rfl)
      have z0 := q0.size _ (List.getElem_mem l0)
      refine ⟨_, rfl, _, rfl, P, _, _, _, rfl, rfl, SqL.of hP, g0', _, rfl, P, _, _, _, rfl, rfl, SqL.of hP, g0', _, rfl, (by show 3 ≤ sizeLine; decide), fun l nl => ?_⟩
      generalize hg5 : upd H4 l _ = H5
      have e5 := newE hg5 nl
      have hl5 := newP hg5
      refine ⟨d, l, _, rfl, (hd.ex E4).ex e5, SqL.of hl5, by simp, by simp, fun x H6 e6 hx => ?_⟩
      obtain ⟨c, rfl, hc⟩ : ∃ c : Int, x = V.int c ∧ Sz (sz - 1) c := by
        simp only [List.mem_cons, List.not_mem_nil, or_false] at hx
        rcases hx with h | h | h
        · exact ⟨_, h, z0⟩
        · exact ⟨_, h, z0.neg⟩
        · exact ⟨0, h, Sz.mono (m := 1) (by walk_at "lit") (by omega)⟩
      have hP6 := e6 _ _ (e5 _ _ hP)
      refine ⟨_, rfl, P, _, _, 0, rfl, rfl, hP6, Evl.ixN_nat (j := 0) (by rw [List.length_map]; exact l0), ?_⟩
      refine ⟨Evl.Ex.mut (E4.trans (e5.trans e6)) nP, qs0.set 0 c, ?_, ⟨?_, ?_, ?_, ?_⟩, rfl⟩
      · rw [upd_same, List.map_set]
      · rw [List.length_set]
        exact q0.len
      · intro i z hi h1 h2
        rw [List.getElem?_set_ne (by omega)] at hi
        exact q0.mid i z hi h1 h2
      · intro hm z hi
        rw [List.getElem?_set_ne (by omega)] at hi
        exact q0.last hm z hi
      · intro z hz
        rcases List.mem_or_eq_of_mem_set hz with q | q
        · exact q0.size z q
        · rw [q]
          exact hc
    rintro σ' H5 ⟨E5, qs, hP5, Z, rfl⟩
    clear hP q0 E4
    -- tails = [(parts[-1], 1)]
    have qne : qs ≠ [] := fun q => by
      have := Z.len
      rw [q] at this
      simp at this
      omega
    obtain ⟨qn, hqn, gq1, gq2, qee⟩ := last_int qne
    have qr : rs qs 0 = qn := by
      have e := rs_get (qs := qs) (j := 0) (by rw [Z.len]; omega)
      rw [List.length_map, List.getElem?_map] at gq2
      rw [show qs.length - 1 - 0 = qs.length - 1 by omega] at e
      rw [e] at gq2
      exact V.int.inj (Option.some.inj gq2)
    refine ⟨_, rfl, _, rfl, P, _, _, _, rfl, rfl, SqL.of hP5, gq1, (by show 2 ≤ sizeLine; decide), fun p1 n1 => ?_⟩
    generalize hg6 : upd H5 p1 _ = H6
    have e6 := newE hg6 n1
    have h1 := newP hg6
    refine ⟨(by show 1 ≤ sizeLine; decide), fun D nD => ?_⟩
    generalize hg7 : upd H6 D _ = H7
    have e7 := newE hg7 nD
    have hD7 := newP hg7
    have nD0 : H D = none := Evl.fresh_back (E5.trans e6) nD
    have hP7 := e7 _ _ (e6 _ _ hP5)
    have neDP : P ≠ D := ne_of_none (e6 _ _ hP5) nD
    have E7 : Ex H H7 := E5.trans (e6.trans e7)
    have t0 : FracAt H7 (.ref p1) (tl (rs qs) 0) := ⟨p1, rfl, by
      show H7 p1 = some (.tup [.int (rs qs 0), .int 1])
      rw [qr]
      exact e7 _ _ h1⟩
    clear e6 e7 h1 hg6 hg7
    have TS := fun {j : Nat} (hj : j < m) => tl_sz4 Z (by omega) sm hj
    -- for part in parts[:-1][::-1]
    refine ⟨fun σ' H' => Ex H H' ∧ ∃ us v, H' P = some (.lst (qs.map V.int)) ∧ H' D = some (.lst us) ∧ Fracs H' us ((List.range m).map (tl (rs qs))) ∧ σ' = [some (.ref d), some (.bl g), some (.int m), none, some (.ref P), v, some (.ref D), none, none, none], ?_, ?_⟩
    · refine ⟨_, rfl, _, rfl, _, rfl, P, _, rfl, SqL.of hP7, fun p2 n2 => ?_⟩
      rw [cut_init, ← List.map_dropLast]
      generalize hg8 : upd H7 p2 _ = H8
      have e8 := newE hg8 n2
      have h2 := newP hg8
      refine ⟨p2, _, rfl, SqL.of h2, fun p3 n3 => ?_⟩
      generalize hg9 : upd H8 p3 _ = H9
      have e9 := newE hg9 n3
      have h3 := newP hg9
      have e79 : Ex H7 H9 := e8.trans e9
      have neD3 : p3 ≠ D := fun q => by
        rw [q] at n3
        rw [e8 _ _ hD7] at n3
        cases n3
      refine ⟨p3, rfl, ⟨_, SqL.of h3⟩, for_list (K := K) (xs := (qs.dropLast.map V.int).reverse) (fun i σ' H' => Ex H H' ∧ H' P = some (.lst (qs.map V.int)) ∧ H' p3 = some (.lst (qs.dropLast.map V.int).reverse) ∧ ∃ us u v, H' D = some (.lst (us ++ [u])) ∧ Fracs H' (us ++ [u]) ((List.range (i + 1)).map (tl (rs qs))) ∧ us.length = i ∧ σ' = [some (.ref d), some (.bl g), some (.int m), none, some (.ref P), v, some (.ref D), none, none, none])
        ⟨E7.trans e79, e79 _ _ hP7, h3, [], _, none, e79 _ _ hD7, Fracs.one (t0.ex e79), rfl, rfl⟩ (fun i σ' H' _ z => SqL.of z.2.2.1) ?_ ?_⟩
      · rintro i x σ' H' hx ⟨E', hP', h3', us, u, v, hD', fr, ul, rfl⟩
        have hi : i + 1 < m := by
          have := (List.getElem?_eq_some_iff.mp hx).1
          rw [List.length_reverse, List.length_map, List.length_dropLast, Z.len] at this
          omega
        have hxq : x = .int (rs qs (i + 1)) := by
          rw [List.getElem?_reverse (by rw [List.length_map, List.length_dropLast, Z.len]; omega), List.length_map, List.length_dropLast, List.getElem?_map, Z.len] at hx
          obtain ⟨z, hz1, rfl⟩ := Option.map_eq_some_iff.mp hx
          rw [List.getElem?_dropLast, if_pos (by rw [Z.len]; omega)] at hz1
          have e := rs_get (qs := qs) (j := i + 1) (by rw [Z.len]; exact hi)
          rw [Z.len, show m - 1 - (i + 1) = m - 1 - 1 - i by omega, hz1] at e
          rw [Option.some.inj e]
        subst hxq
        have fu : FracAt H' u (tl (rs qs) i) := fr.2 i u _ (by rw [List.getElem?_append_right (by omega), ul, Nat.sub_self]; rfl) (by rw [List.getElem?_map, List.getElem?_range (by omega)]; rfl)
        obtain ⟨pu, rfl, hpu⟩ := id fu
        obtain ⟨tz1, tz2⟩ := TS (show i < m by omega)
        have zr : Sz 500 (rs qs (i + 1)) := (Z.sz hi).mono (by omega)
        refine ⟨_, rfl, .inl ⟨rfl, _, SqL.of hD'⟩, _, rfl, _, rfl, _, rfl, D, _, _, _, rfl, rfl, SqL.of hD', atI_last _ _, pu, _, _, _, rfl, rfl, SqT.of hpu, rfl, _, _, rfl, rfl, mul_ok zr tz1, _, rfl, _, rfl, D, _, _, _, rfl, rfl, SqL.of hD', atI_last _ _, pu, _, _, _, rfl, rfl, SqT.of hpu, rfl, _, _, rfl, rfl,
          _, rfl, _, rfl, D, _, _, _, rfl, rfl, SqL.of hD', atI_last _ _, pu, _, _, _, rfl, rfl, SqT.of hpu, rfl, (by show 2 ≤ sizeLine; decide), fun p np => ?_⟩
        generalize hg10 : upd H' p _ = H10
        have e10 := newE hg10 np
        have hp10 := newP hg10
        have hD10 := e10 _ _ hD'
        have tt : ExT H10 (upd H10 D (.lst ((us ++ [V.ref pu]) ++ [V.ref p]))) := ExT.lst hD10
        refine ⟨D, _, _, rfl, rfl, hD10, small1000 (by rw [List.length_append, ul]; show i + 1 ≤ 1000; omega), Evl.Ex.mut (E'.trans e10) nD0, by rw [upd_ne neDP]; exact e10 _ _ hP', by rw [upd_ne neD3]; exact e10 _ _ h3', us ++ [V.ref pu], V.ref p, _, upd_same, ?_, by rw [List.length_append, ul]; rfl, rfl⟩
        rw [List.range_succ, List.map_append]
        exact (Fracs.snoc (fr.ex e10) ⟨p, rfl, hp10⟩).ext tt
      · rintro σ' H' ⟨E', hP', h3', us, u, v, hD', fr, ul, rfl⟩
        rw [List.length_reverse, List.length_map, List.length_dropLast, Z.len, show m - 1 + 1 = m by omega] at fr
        exact ⟨E', _, v, hP', hD', fr, rfl⟩
    rintro σ' H8 ⟨E8, us, v5, hP8, hD8, fr8, rfl⟩
    have ul : us.length = m := by
      rw [fr8.1, List.length_map, List.length_range]
    have frt : ∀ j, j < m → ∃ u, us[j]? = some u ∧ FracAt H8 u (tl (rs qs) j) := fun j hj => by
      have gu : us[j]? = some (us[j]'(by omega)) := List.getElem?_eq_getElem _
      exact ⟨_, gu, fr8.2 j _ _ gu (by rw [List.getElem?_map, List.getElem?_range hj]; rfl)⟩
    clear t0 hD7 hP7 E7
    -- common, value
    refine ⟨_, rfl, d, 60, rfl, hd.ex E8, by decide, (by walk_at "bd"), fun c H9 e9 c0 c1 => ⟨_, _, rfl, rfl, ?_⟩⟩
    have hD9 := e9 _ _ hD8
    obtain ⟨u, gu1, gu2, _⟩ := last_V (us := us) (fun q => by rw [q] at ul; simp at ul; omega)
    obtain ⟨u', gu', fu⟩ := frt (m - 1) (by omega)
    rw [ul, gu'] at gu1
    have eu : u' = u := Option.some.inj gu1
    subst eu
    obtain ⟨pu, rfl, hpu⟩ := fu.ex e9
    obtain ⟨tz1, tz2⟩ := TS (show m - 1 < m by omega)
    have zc : Sz 8 (1 + c) := by
      show (1 + c).natAbs < 256
      omega
    have hcn : 1 + c ≠ 0 := by omega
    have sc := tl_scale Z.h0 Z.h1 (show m - 1 < m by omega) hcn
    have lo := tl_low Z.h0 Z.h1 (m - 1) (by omega)
    have hbn : (tl (rs qs) (m - 1)).2 * (1 + c) ≠ 0 := Int.mul_ne_zero (by have := lo.pos; omega) hcn
    refine ⟨_, rfl, _, rfl, D, _, _, _, rfl, rfl, SqL.of hD9, gu2, pu, _, _, _, rfl, rfl, SqT.of hpu, rfl, _, rfl, _, _, rfl, rfl, mul_ok tz1 zc, _, rfl, _, rfl, D, _, _, _, rfl, rfl, SqL.of hD9, gu2, pu, _, _, _, rfl, rfl, SqT.of hpu, rfl, _, rfl, _, _, rfl, rfl, mul_ok tz2 zc,
      _, _, rfl, hbn, (by walk_at "szm"), fun w0 H10 e10 hw0 => ?_⟩
    replace hw0 : FracAt H10 w0 (tl (rs qs) (m - 1)) := by
      rw [← sc]
      exact hw0
    -- taken apart
    refine ⟨_, rfl, _, rfl, by omega, by omega, for_range (lo := 0) (fun i σ' H' => Ex H8 H' ∧ ∃ a w r, σ' = [some (.ref d), some (.bl g), some (.int m), a, some (.ref P), v5, some (.ref D), some (.int (1 + c)), some w, r] ∧ (i < m → FracAt H' w (tl (rs qs) (m - 1 - i)))) ⟨e9.trans e10, none, w0, none, rfl, fun _ => hw0⟩ ?_ ?_⟩
    · rintro i σ' H' hi ⟨e8, a, w, r, rfl, hw⟩
      have hi' : i < m := by omega
      replace hw := hw hi'
      obtain ⟨j, hj⟩ : ∃ j, j = m - 1 - i := ⟨_, rfl⟩
      have hjm : j < m := by omega
      rw [← hj] at hw
      obtain ⟨x, gx, fx⟩ := frt j hjm
      replace fx := fx.ex e8
      have hD' := e8 _ _ hD8
      have hP' := e8 _ _ hP8
      have lo := tl_low Z.h0 Z.h1 j hjm
      have fl := tl_floor Z.h0 Z.h1 j hjm
      obtain ⟨tz1, tz2⟩ := TS hjm
      have tp := lo.pos
      have gq : qs[i]? = some (rs qs j) := by
        have e := rs_get (qs := qs) (j := j) (by rw [Z.len]; exact hjm)
        rw [Z.len, show m - 1 - j = i by omega] at e
        exact e
      have gq' : (qs.map V.int)[i]? = some (.int (rs qs j)) := by
        rw [List.getElem?_map, gq]
        rfl
      have ei : (0 : Int) + (i : Int) = (i : Int) := Int.zero_add _
      have zq : Sz 500 (rs qs j) := (Z.sz hjm).mono (by omega)
      -- the value, its floor
      refine ⟨_, rfl, _, rfl, _, rfl, _, _, rfl, rfl, _, rfl, _, _, rfl, rfl, D, _, _, _, rfl, rfl, SqL.of hD', at_of (j := j) (by omega) gx, _, _, _, rfl, hw, fx, true, rfl, iteF ?_⟩
      refine ⟨_, rfl, _, _, rfl, hw, by omega, tz2.mono (by decide), ?_⟩
      rw [fl]
      refine ⟨_, rfl, _, rfl, P, _, _, _, rfl, rfl, SqL.of hP', at_of (j := i) ei gq', _, rfl, true, rfl, iteF ?_⟩
      -- rest
      have r1 := red_whole (rs qs j)
      have q1 : Sz 4000 (red (rs qs j) 1).1 := by
        rw [r1]
        exact zq.mono (by decide)
      have q2 : Sz 4000 (red (rs qs j) 1).2 := by
        rw [r1]
        exact Sz.mono (m := 1) (by show (1 : Int).natAbs < 2 ^ 1; decide) (by decide)
      have rn : (tl (rs qs) j).2 * (red (rs qs j) 1).2 ≠ 0 := by
        rw [r1]
        show (tl (rs qs) j).2 * 1 ≠ 0
        omega
      refine ⟨_, rfl, _, rfl, _, rfl, P, _, _, _, rfl, rfl, SqL.of hP', at_of (j := i) ei gq', _, 1, rfl, by decide, Sz.mono (m := 1) (by walk_at "lit") (by decide), fun y H11 e11 hy => ⟨_, _, _, _, rfl, hw.ex e11, hy, tz1.mono (by decide), tz2.mono (by decide), q1, q2, rn, fun z H12 e12 hz => ?_⟩⟩
      refine ⟨_, rfl, _, rfl, _, _, rfl, rfl, rfl, _, rfl, ite2 (fun hc => ?_) (fun hc => ?_)⟩
      · rw [decI] at hc
        have j0 : j = 0 := by
          have := of_decide_eq_true hc
          omega
        subst j0
        have t0 := tl_rest0 (rs qs)
        replace hz : FracAt H12 z (0, 1) := by
          rw [← t0]
          exact hz
        refine ⟨_, rfl, (by show 2 ≤ sizeLine; decide), fun p np => ?_⟩
        generalize hg13 : upd H12 p _ = H13
        have e13 := newE hg13 np
        have hp13 := newP hg13
        refine ⟨_, _, (0, 1), rfl, hz.ex e13, ⟨p, rfl, hp13⟩, true, rfl, iteT ⟨_, rfl, _, _, rfl, ((hw.ex e11).ex e12).ex e13, ?_⟩⟩
        have d1 : decide ((tl (rs qs) 0).2 = 1) = true := rfl
        rw [d1]
        exact ⟨true, rfl, k _ (E8.trans (e8.trans (e11.trans (e12.trans e13))))⟩
      · rw [decI] at hc
        have jn : j ≠ 0 := fun q => by
          have : (0 : Int) + (i : Int) = (m : Int) - 1 := by omega
          exact hc (decide_eq_true this)
        obtain ⟨l, rfl⟩ : ∃ l, j = l + 1 := ⟨j - 1, by omega⟩
        have tr := tl_rest Z.h0 Z.h1 l hjm
        have ta := tl_tail Z.h0 Z.h1 l hjm
        have tg := ta.gt
        have tq := ta.pos
        obtain ⟨uz1, uz2⟩ := TS (show l < m by omega)
        replace hz : FracAt H12 z ((tl (rs qs) l).2, (tl (rs qs) l).1) := by
          rw [← tr]
          exact hz
        refine ⟨_, rfl, _, _, rfl, (hw.ex e11).ex e12, ?_⟩
        have d1 : decide ((tl (rs qs) (l + 1)).2 = 1) = false := decide_eq_false (by show ¬ (tl (rs qs) l).1 = 1; omega)
        rw [d1]
        refine ⟨false, rfl, true, rfl, iteF ?_⟩
        refine ⟨_, rfl, (by show 2 ≤ sizeLine; decide), fun p np => ?_⟩
        generalize hg13 : upd H12 p _ = H13
        have e13 := newE hg13 np
        have hp13 := newP hg13
        have one4 : Sz 4000 1 := Sz.mono (m := 1) (by walk_at "lit") (by decide)
        refine ⟨_, _, _, (1, 1), rfl, hz.ex e13, ⟨p, rfl, hp13⟩, uz2.mono (by decide), uz1.mono (by decide), one4, one4, ?_⟩
        have rk : rank ((tl (rs qs) l).2, (tl (rs qs) l).1) (1, 1) = -1 := by
          unfold rank
          show (if (tl (rs qs) l).2 * 1 = 1 * (tl (rs qs) l).1 then (0 : Int) else if (tl (rs qs) l).2 * 1 < 1 * (tl (rs qs) l).1 then -1 else 1) = -1
          rw [if_neg (by omega), if_pos (by omega)]
        rw [rk]
        refine ⟨_, rfl, _, rfl, true, rfl, iteF ?_⟩
        -- value = divided((1, 1), rest)
        refine ⟨(by show 2 ≤ sizeLine; decide), fun p2 np2 => ?_⟩
        generalize hg14 : upd H13 p2 _ = H14
        have e14 := newE hg14 np2
        have hp14 := newP hg14
        refine ⟨_, rfl, _, _, (1, 1), _, rfl, ⟨p2, rfl, hp14⟩, (hz.ex e13).ex e14, one4, one4, uz2.mono (by decide), uz1.mono (by decide), (by show (1 : Int) * (tl (rs qs) l).2 ≠ 0; omega), fun w2 H15 e15 hw2 => ?_⟩
        refine ⟨e8.trans (e11.trans (e12.trans (e13.trans (e14.trans e15)))), _, w2, _, rfl, fun _ => ?_⟩
        rw [show m - 1 - (i + 1) = l by omega, ← turn_over ta]
        exact hw2
    · rintro σ' H' ⟨e8, _⟩
      exact k _ (E8.trans e8)
end
end K24
set_option maxRecDepth 100000
set_option maxHeartbeats 4000000
namespace K24
open PySem PySem.Spec PyProof.Rows L2 M24 Pre
section
variable {P : Program} {w : World} {K : PySem.W.Frag} {mg : Str → Option Value} {base : Heap}
/-! steps of the reading, by name -/
local macro_rules | `(tactic| walk_at "hx") => `(tactic| first | assumption | (refine' DrawsAt.ex ?ha ?hb; (case hb => assumption); (case ha => walk_at "hx")) | (refine' FracAt.ex ?ha ?hb; (case hb => assumption); (case ha => walk_at "hx")) | (refine' exg ?hb ?ha; (case hb => assumption); (case ha => walk_at "hx")))
local macro_rules | `(tactic| walk_at "sz") => `(tactic| first | assumption | (refine' Sz.mul ?sa ?sb; (case sa => walk_at "sz"); (case sb => walk_at "sz")) | (refine' Sz.add ?sa ?sb; (case sa => walk_at "sz"); (case sb => walk_at "sz")) | (refine' Sz.sub ?sa ?sb; (case sa => walk_at "sz"); (case sb => walk_at "sz")) | (refine' Sz.neg ?sa; (case sa => walk_at "sz")))
local macro_rules | `(tactic| walk_at "szm") => `(tactic| ((try dsimp only); refine' Sz.mono ?sa ?sb; (case sa => walk_at "sz"); (case sb => decide)))
local macro_rules | `(tactic| walk_at "ml") => `(tactic| (refine' mul_okE ?sa ?sb ?c0 ?c1 ?c2; (case sa => walk_at "sz"); (case sb => walk_at "sz"); (case c0 => decide); (case c1 => decide); (case c2 => decide)))
local macro_rules | `(tactic| walk_at "lit") => `(tactic| (show Int.natAbs _ < 2 ^ _; decide))
local macro_rules | `(tactic| walk_at "ex") => `(tactic| first | exact ex0 | assumption | (refine' Evl.Ex.trans ?ea ?eb; (case eb => assumption); (case ea => walk_at "ex")))
local macro_rules | `(tactic| walk_at "bd") => `(tactic| (refine' Sz.mono (m := 20) ?sa ?sb; (case sb => decide); (case sa => walk_at "lit")))

/-! ### where draws come from -/
theorem cut_63 {xs : List V} (h : xs.length ≤ 63) : cutV xs none (some 63) = xs := by
  unfold cutV
  rw [HT.sIx_none, show HT.sIx xs.length xs.length (some 63) = min 63 xs.length from HT.sIx_nat xs.length xs.length 63, List.drop_zero, Nat.sub_zero]
  exact List.take_of_length_le (by omega)
theorem nat_ints : ∀ {ys : List V}, (∀ y, y ∈ ys → ∃ n : Int, y = V.int n ∧ 0 ≤ n) → ∃ ns : List Int, ys = ns.map V.int ∧ ∀ n, n ∈ ns → 0 ≤ n
  | [], _ => ⟨[], rfl, fun n h => by cases h⟩
  | y :: ys, h => by
    obtain ⟨n, rfl, h2⟩ := h y (List.mem_cons_self ..)
    obtain ⟨ns, e, h3⟩ := nat_ints (ys := ys) fun z hz => h z (List.mem_cons_of_mem _ hz)
    refine ⟨n :: ns, by rw [e]; rfl, fun m hm => ?_⟩
    rcases List.mem_cons.mp hm with q | q
    · rw [q]
      exact h2
    · exact h3 m q
def spSource (K : PySem.W.Frag) : Sp := fun vs H Q _ => ∃ (a : Addr) (ns : List Int) (salt : Int), vs = [.ref a, .int salt] ∧ SqL K H a (ns.map V.int) ∧ ns.length ≤ 63 ∧ 0 ≤ salt ∧ salt ≤ 200 ∧ ∀ d H', Ex H H' → DrawsAt H' d → Q (.ref d) H'
theorem ok_law_source (T : Tx K mg) : FnOk P w K mg base CX0 1 T.law_source T.law_source_fd ["script", "salt"] (spSource K) := by
  refine T.law_source_F.ok sc_law_source (fun vs H Q E h => ?_) (fun cdv A outer s H vs Q E hr h => ?_)
  · obtain ⟨a, ns, salt, rfl, _⟩ := h
    rfl
  · obtain ⟨a, ns, salt, rfl, ha, hl, s0, s1, k⟩ := h
    refine ⟨_, (pss_cons (ps_setLc (i := 3) (own := [("cell", 2)]) (g := gName 2) rfl sc_law_source.nd rfl rfl (sw_true rfl rfl rfl (by decide +kernel)) (pi_list (pe_slice sl_list (pv 0) po_none (po_some pe_int))) (blkOk_by (own := [("cell", 2)]) (N := ["script", "salt", "cell", "numbers", "blend"]) (sc := defScope s_law_source) (by decide +kernel)) (fun _ _ _ _ _ => pg_name (i := 2) sc_law_source.nd rfl (Or.inl rfl)) (fun _ _ _ _ _ => pts_nil) (fun _ _ _ _ _ => pe_callB call_abs (by rfl) T.z_abs (by decide +kernel) (pa_cons (pe_callTy call_int1 (by rfl) T.z_int (by decide +kernel) (pa_cons (pv 2) pa_nil)) pa_nil)))
      (pss_cons (ps_set (i := 4) sc_law_source.nd rfl (Or.inl rfl) (pe_op op_add pe_int (pe_op op_mulW pe_int (pv 1))))
      (pss_cons (ps_for PassesOwn.never rfl (pi_list (pv 3)) (pg_name (i := 2) sc_law_source.nd rfl (Or.inl rfl)) (pss_one (ps_set (i := 4) sc_law_source.nd rfl (Or.inl rfl) (pe_op op_modN (pe_callTy call_int1 (by rfl) T.z_int (by decide +kernel) (pa_cons (pe_op op_add (pe_op op_add (pe_op op_mulW (pv 4) pe_int) (pe_op op_modN (pv 2) pe_int)) pe_int) pa_nil)) pe_int))))
      (pss_one (ps_ret (Pre.pe_close (Pre.pe_close (pe_lst (pa_cons (pe_revL (pe_lc (own := [("cell", 2)]) (g := gName 2) rfl sc_law_source.nd (pi_list (pv 3)) (blkOk_by (own := [("cell", 2)]) (N := ["script", "salt", "cell", "numbers", "blend"]) (sc := defScope s_law_source) (by decide +kernel)) (fun _ _ _ _ _ => pg_name (i := 2) sc_law_source.nd rfl (Or.inl rfl)) (fun _ _ _ _ _ => pts_one (pt_cmpR op_ge (pv 2) (pe_op op_pow pe_int pe_int) (nomark _))) (fun _ _ _ _ _ => pv 2))) (pa_cons (pv 4) pa_nil)))))))))), ?_⟩
    -- numbers
    refine ⟨_, rfl, _, rfl, a, _, rfl, ha, fun p np => ?_⟩
    rw [cut_63 (by rw [List.length_map]; exact hl)]
    generalize hg1 : upd H p _ = H1
    have e1 := newE hg1 np
    have hp1 := newP hg1
    refine ⟨p, rfl, ⟨_, SqL.of hp1⟩, fun N nN => made_list (K := K) (R := fun _ y _ => ∃ n : Int, y = V.int n ∧ 0 ≤ n) (fun _ _ _ _ _ r => r) (SqL.of hp1) (by rw [List.length_map]; omega) (fun i x H2 hx e2 Y hY => ?_) nN (fun H2 ys e2 hN hlen hys => ?_)⟩
    · rw [List.getElem?_map] at hx
      obtain ⟨n, _, rfl⟩ := Option.map_eq_some_iff.mp hx
      refine ⟨rfl, _, rfl, .inl ⟨_, rfl, _, rfl, hY _ _ ex0 ⟨_, rfl, ?_⟩⟩⟩
      split <;> omega
    obtain ⟨ms, rfl, m0⟩ := nat_ints fun y hy => by
      obtain ⟨j, hj⟩ := List.mem_iff_getElem?.mp hy
      exact hys j y hj
    have ml : ms.length ≤ 63 := by
      rw [List.length_map, List.length_map] at hlen
      omega
    have E2 : Ex H H2 := e1.trans e2
    have z13 : Sz 13 7919 := by walk_at "lit"
    have zs : Sz 8 salt := by
      show salt.natAbs < 256
      omega
    -- blend
    refine ⟨_, rfl, _, _, rfl, rfl, mul_ok z13 zs, _, _, rfl, rfl, ?_⟩
    refine ⟨_, rfl, N, rfl, ⟨_, SqL.of hN⟩, for_list (K := K) (xs := ms.map V.int) (fun i σ' H' => H' = H2 ∧ ∃ b v, σ' = [some (.ref a), some (.int salt), v, some (.ref N), some (.int b)] ∧ 0 ≤ b ∧ b < 2147483647) ⟨rfl, _, none, rfl, by show 0 ≤ 2477 + 7919 * salt; omega, by show 2477 + 7919 * salt < 2147483647; omega⟩ (fun i σ' H' _ q => by rw [q.1]; exact SqL.of hN) ?_ ?_⟩
    · rintro i x σ' H' hx ⟨rfl, b, v, rfl, b0, b1⟩
      rw [List.getElem?_map] at hx
      obtain ⟨n, _, rfl⟩ := Option.map_eq_some_iff.mp hx
      have zb : Sz 31 b := Sz.lt b0 b1 (by decide)
      have zk : Sz 16 48271 := by walk_at "lit"
      refine ⟨_, rfl, _, _, rfl, rfl, mul_ok zb zk, _, rfl, _, _, rfl, rfl, (by show (2147483549 : Int) ≠ 0; decide), _, _, rfl, rfl, _, _, rfl, rfl, .inl ⟨_, rfl, _, _, rfl, rfl, (by show (2147483647 : Int) ≠ 0; decide), rfl, _, _, rfl, ?_, ?_⟩⟩
      · show 0 ≤ Int.fmod _ 2147483647
        rw [Int.fmod_eq_emod_of_nonneg _ (by decide)]
        exact Int.emod_nonneg _ (by decide)
      · show Int.fmod _ 2147483647 < 2147483647
        rw [Int.fmod_eq_emod_of_nonneg _ (by decide)]
        exact Int.emod_lt_of_pos _ (by decide)
    · rintro σ' H' ⟨rfl, b, v, rfl, b0, b1⟩
      -- the great ones, backwards
      refine ⟨_, rfl, N, rfl, ⟨_, SqL.of hN⟩, fun Dl nDl => kept_list (K := K) (R := fun _ y _ => ∃ n : Int, y = V.int n ∧ 0 ≤ n) (fun _ _ _ _ _ r => r) (SqL.of hN) (by rw [List.length_map]; omega) (fun i x H3 hx e3 Y Z hY hZ => ?_) nDl (fun H3 ys e3 hDl hlen3 hys3 => ?_)⟩
      · rw [List.getElem?_map] at hx
        obtain ⟨n, hn, rfl⟩ := Option.map_eq_some_iff.mp hx
        refine ⟨rfl, _, rfl, _, _, rfl, rfl, (by show (0 : Int) ≤ 18 ∧ (18 : Int) ≤ 1000000 ∧ (10 : Int).natAbs < 2 ^ 64; decide), _, _, rfl, rfl, _, rfl, ite2 (fun _ => ?_) (fun _ => hZ _ ex0)⟩
        exact ⟨_, rfl, hY _ _ ex0 ⟨n, rfl, m0 n (List.mem_of_getElem? hn)⟩⟩
      · obtain ⟨ks, rfl, k0⟩ := nat_ints fun y hy => by
          obtain ⟨j, _, r⟩ := hys3 y hy
          exact r
        have kl : ks.length ≤ 63 := by
          rw [List.length_map, List.length_map] at hlen3
          omega
        refine ⟨Dl, _, rfl, SqL.of hDl, fun l nl => ?_⟩
        rw [← List.map_reverse]
        generalize hg4 : upd H3 l _ = H4
        have e4 := newE hg4 nl
        have hl4 := newP hg4
        refine ⟨_, rfl, (by show 2 ≤ sizeLine; decide), fun d nd => ?_⟩
        have hdl : d ≠ l := fun q => by
          rw [q, hl4] at nd
          cases nd
        have E4 : Ex H H4 := E2.trans (e3.trans e4)
        have nl0 : H l = none := Evl.fresh_back (E2.trans e3) nl
        have nd0 : H d = none := Evl.fresh_back E4 nd
        refine ⟨l, DIn, _, by rw [upd_ne hdl.symm]; exact hl4, DIn.of (fun n hn => k0 n (List.mem_reverse.mp hn)) (by rw [List.length_reverse]; exact kl), d, DOut l, _, by rw [upd_ne hdl]; exact upd_same, ⟨b, rfl, b0, b1⟩, ?_⟩
        refine k d _ (fun x o hx => ?_) ⟨l, hdl, upd_same, by rw [upd_ne hdl.symm]; exact upd_same⟩
        have h1 : x ≠ d := ne_of_none hx nd0
        have h2 : x ≠ l := ne_of_none hx nl0
        rw [upd_ne h1, upd_ne h2, upd_ne h1]
        exact E4 _ _ hx

def spLaw (K : PySem.W.Frag) : Sp := fun vs H Q _ => ∃ (a : Addr) (ns : List Int), vs = [.ref a] ∧ SqL K H a (ns.map V.int) ∧ ns.length ≤ 63 ∧ ∀ H', Q (.bl true) H'
theorem ok_law (T : Tx K mg) : FnOk P w K mg base CX0 7 T.law T.law_fd ["script"] (spLaw K) := by
  refine T.law_F.ok sc_law (fun vs H Q E h => ?_) (fun cdv A outer s H vs Q E hr h => ?_)
  · obtain ⟨a, ns, rfl, _⟩ := h
    rfl
  · obtain ⟨a, ns, rfl, ha, hl, k⟩ := h
    refine ⟨_, (pss_cons (ps_set (i := 1) sc_law.nd rfl (Or.inl rfl) (pe_call (ok_law_source T) (hr.mono (by decide)) (by rfl) T.law_source_m T.law_source_F.kp T.law_source_b .nil pass0 (pa_cons (pv 0) (pa_cons pe_int pa_nil))))
      (pss_cons (ps_for PassesOwn.never rfl (pi_range1 (by rfl) T.z_range (pa_cons pe_int pa_nil)) (pg_name (i := 2) sc_law.nd rfl (Or.inl rfl)) (pss_one (ps_if (PW.pt (pw_or (pt_not (pt_val (pe_call (ok_law_two T) (hr.mono (by decide)) (by rfl) T.law_two_m T.law_two_F.kp T.law_two_b .nil pass0 (pa_cons (pv 1) pa_nil)))) (pw_or1 (pt_not (pt_val (pe_call (ok_law_quotient T) (hr.mono (by decide)) (by rfl) T.law_quotient_m T.law_quotient_F.kp T.law_quotient_b .nil pass0 (pa_cons (pv 1) pa_nil))))))) (pss_one (ps_ret pe_bl)) pss_nil)))
      (pss_cons (ps_if (PW.pt (pw_or (pt_not (pt_val (pe_call (ok_law_rows T) (hr.mono (by decide)) (by rfl) T.law_rows_m T.law_rows_F.kp T.law_rows_b .nil pass0 (pa_cons (pv 1) pa_nil)))) (pw_or1 (pt_not (pt_val (pe_call (ok_law_apart T) (hr.mono (by decide)) (by rfl) T.law_apart_m T.law_apart_F.kp T.law_apart_b .nil pass0 (pa_cons (pv 1) pa_nil))))))) (pss_one (ps_ret pe_bl)) pss_nil)
      (pss_one (ps_ret (pe_call (ok_law_steps T) (hr.mono (by decide)) (by rfl) T.law_steps_m T.law_steps_F.kp T.law_steps_b .nil pass0 (pa_cons (pv 1) pa_nil))))))), ?_⟩
    refine ⟨_, rfl, a, ns, 24, rfl, ha, hl, by decide, by decide, fun d H1 e1 hd => ⟨2, rfl, by decide, by decide, for_range (lo := 0) (n := 2) (fun i σ' H' => DrawsAt H' d ∧ ∃ v, σ' = [some (.ref a), some (.ref d), v]) ⟨hd, none, rfl⟩ ?_ ?_⟩⟩
    · rintro i σ' H' hi ⟨hd', v, rfl⟩
      exact ⟨_, rfl, d, rfl, hd', fun H2 e2 => ⟨true, rfl, iteF ⟨_, rfl, d, rfl, hd'.ex e2, fun H3 e3 => ⟨true, rfl, iteF ⟨(hd'.ex e2).ex e3, _, rfl⟩⟩⟩⟩⟩
    · rintro σ' H' ⟨hd', v, rfl⟩
      exact ⟨_, rfl, d, rfl, hd', fun H2 e2 => ⟨true, rfl, iteF ⟨_, rfl, d, rfl, hd'.ex e2, fun H3 e3 => ⟨true, rfl, iteF ⟨_, rfl, d, rfl, (hd'.ex e2).ex e3, fun H4 e4 => k _⟩⟩⟩⟩⟩
end
theorem all_mk {l : PySem.W.OpenLaw} {w : World} {K : PySem.W.Frag} {h : Heap} {mg : Str → Option Value} {fa : Addr} {f0 f1 f2 f3 f4 f5 f6 f7 f8 f9 f10 f11 f12 f13 f14 f15 f16 f17 f18 f19 f20 f21 f22 f23 f24 f25 f26 : Addr} (X : K.In h) (G : h.Ns mainGlobals mg) (hfa : mg "law" = some (.ref fa))
    {od0 od1 od2 od3 od4 od5 od6 od7 od8 od9 od10 od11 od12 od13 od14 od15 od16 od17 od18 od19 od20 od21 od22 od23 od24 od25 od26 an0 an1 an2 an3 an4 an5 an6 an7 an8 an9 an10 an11 an12 an13 an14 an15 an16 an17 an18 an19 an20 an21 an22 an23 an24 an25 an26 : Option Addr} {sl0 sl1 sl2 sl3 sl4 sl5 sl6 sl7 sl8 sl9 sl10 sl11 sl12 sl13 sl14 sl15 sl16 sl17 sl18 sl19 sl20 sl21 sl22 sl23 sl24 sl25 sl26 : Array (Option Value)} {oc0 oc1 oc2 oc3 oc4 oc5 oc6 oc7 oc8 oc9 oc10 oc11 oc12 oc13 oc14 oc15 oc16 oc17 oc18 oc19 oc20 oc21 oc22 oc23 oc24 oc25 oc26 kV0 kV1 kV2 kV3 kV4 kV5 kV6 kV7 kV8 kV9 kV10 kV11 kV12 kV13 kV14 kV15 kV16 kV17 kV18 kV19 kV20 kV21 kV22 kV23 kV24 kV25 kV26 dc0 dc1 dc2 dc3 dc4 dc5 dc6 dc7 dc8 dc9 dc10 dc11 dc12 dc13 dc14 dc15 dc16 dc17 dc18 dc19 dc20 dc21 dc22 dc23 dc24 dc25 dc26 pm0 pm1 pm2 pm3 pm4 pm5 pm6 pm7 pm8 pm9 pm10 pm11 pm12 pm13 pm14 pm15 pm16 pm17 pm18 pm19 pm20 pm21 pm22 pm23 pm24 pm25 pm26 cd0 cd1 cd2 cd3 cd4 cd5 cd6 cd7 cd8 cd9 cd10 cd11 cd12 cd13 cd14 cd15 cd16 cd17 cd18 cd19 cd20 cd21 cd22 cd23 cd24 cd25 cd26 ct0 ct1 ct2 ct3 ct4 ct5 ct6 ct7 ct8 ct9 ct10 ct11 ct12 ct13 ct14 ct15 ct16 ct17 ct18 ct19 ct20 ct21 ct22 ct23 ct24 ct25 ct26 : Value}
    (a0 : PySem.W.nsIn K mainGlobals "fraction" = some (some (.ref f0))) (l0 : K.lookup f0 = some ⟨oc0, od0, .func (PySem.W.fnOf "fraction" "fraction" (defArgs s_fraction) (defBody s_fraction) (defScope s_fraction) .none kV0 dc0 pm0 an0 cd0 ct0), sl0⟩) (c0 : PySem.W.codeIn K cd0 "fraction" = true) (k0 : PySem.W.keepIn K (.ref f0) = true)
    (a1 : PySem.W.nsIn K mainGlobals "added" = some (some (.ref f1))) (l1 : K.lookup f1 = some ⟨oc1, od1, .func (PySem.W.fnOf "added" "added" (defArgs s_added) (defBody s_added) (defScope s_added) .none kV1 dc1 pm1 an1 cd1 ct1), sl1⟩) (c1 : PySem.W.codeIn K cd1 "added" = true) (k1 : PySem.W.keepIn K (.ref f1) = true)
    (a2 : PySem.W.nsIn K mainGlobals "less" = some (some (.ref f2))) (l2 : K.lookup f2 = some ⟨oc2, od2, .func (PySem.W.fnOf "less" "less" (defArgs s_less) (defBody s_less) (defScope s_less) .none kV2 dc2 pm2 an2 cd2 ct2), sl2⟩) (c2 : PySem.W.codeIn K cd2 "less" = true) (k2 : PySem.W.keepIn K (.ref f2) = true)
    (a3 : PySem.W.nsIn K mainGlobals "multiplied" = some (some (.ref f3))) (l3 : K.lookup f3 = some ⟨oc3, od3, .func (PySem.W.fnOf "multiplied" "multiplied" (defArgs s_multiplied) (defBody s_multiplied) (defScope s_multiplied) .none kV3 dc3 pm3 an3 cd3 ct3), sl3⟩) (c3 : PySem.W.codeIn K cd3 "multiplied" = true) (k3 : PySem.W.keepIn K (.ref f3) = true)
    (a4 : PySem.W.nsIn K mainGlobals "divided" = some (some (.ref f4))) (l4 : K.lookup f4 = some ⟨oc4, od4, .func (PySem.W.fnOf "divided" "divided" (defArgs s_divided) (defBody s_divided) (defScope s_divided) .none kV4 dc4 pm4 an4 cd4 ct4), sl4⟩) (c4 : PySem.W.codeIn K cd4 "divided" = true) (k4 : PySem.W.keepIn K (.ref f4) = true)
    (a5 : PySem.W.nsIn K mainGlobals "compared" = some (some (.ref f5))) (l5 : K.lookup f5 = some ⟨oc5, od5, .func (PySem.W.fnOf "compared" "compared" (defArgs s_compared) (defBody s_compared) (defScope s_compared) .none kV5 dc5 pm5 an5 cd5 ct5), sl5⟩) (c5 : PySem.W.codeIn K cd5 "compared" = true) (k5 : PySem.W.keepIn K (.ref f5) = true)
    (a6 : PySem.W.nsIn K mainGlobals "worth" = some (some (.ref f6))) (l6 : K.lookup f6 = some ⟨oc6, od6, .func (PySem.W.fnOf "worth" "worth" (defArgs s_worth) (defBody s_worth) (defScope s_worth) .none kV6 dc6 pm6 an6 cd6 ct6), sl6⟩) (c6 : PySem.W.codeIn K cd6 "worth" = true) (k6 : PySem.W.keepIn K (.ref f6) = true)
    (a7 : PySem.W.nsIn K mainGlobals "is_whole" = some (some (.ref f7))) (l7 : K.lookup f7 = some ⟨oc7, od7, .func (PySem.W.fnOf "is_whole" "is_whole" (defArgs s_is_whole) (defBody s_is_whole) (defScope s_is_whole) .none kV7 dc7 pm7 an7 cd7 ct7), sl7⟩) (c7 : PySem.W.codeIn K cd7 "is_whole" = true) (k7 : PySem.W.keepIn K (.ref f7) = true)
    (a8 : PySem.W.nsIn K mainGlobals "floor_of" = some (some (.ref f8))) (l8 : K.lookup f8 = some ⟨oc8, od8, .func (PySem.W.fnOf "floor_of" "floor_of" (defArgs s_floor_of) (defBody s_floor_of) (defScope s_floor_of) .none kV8 dc8 pm8 an8 cd8 ct8), sl8⟩) (c8 : PySem.W.codeIn K cd8 "floor_of" = true) (k8 : PySem.W.keepIn K (.ref f8) = true)
    (a9 : PySem.W.nsIn K mainGlobals "bottom_of" = some (some (.ref f9))) (l9 : K.lookup f9 = some ⟨oc9, od9, .func (PySem.W.fnOf "bottom_of" "bottom_of" (defArgs s_bottom_of) (defBody s_bottom_of) (defScope s_bottom_of) .none kV9 dc9 pm9 an9 cd9 ct9), sl9⟩) (c9 : PySem.W.codeIn K cd9 "bottom_of" = true) (k9 : PySem.W.keepIn K (.ref f9) = true)
    (a10 : PySem.W.nsIn K mainGlobals "whole_times" = some (some (.ref f10))) (l10 : K.lookup f10 = some ⟨oc10, od10, .func (PySem.W.fnOf "whole_times" "whole_times" (defArgs s_whole_times) (defBody s_whole_times) (defScope s_whole_times) .none kV10 dc10 pm10 an10 cd10 ct10), sl10⟩) (c10 : PySem.W.codeIn K cd10 "whole_times" = true) (k10 : PySem.W.keepIn K (.ref f10) = true)
    (a11 : PySem.W.nsIn K mainGlobals "_law_source" = some (some (.ref f11))) (l11 : K.lookup f11 = some ⟨oc11, od11, .func (PySem.W.fnOf "_law_source" "_law_source" (defArgs s_law_source) (defBody s_law_source) (defScope s_law_source) .none kV11 dc11 pm11 an11 cd11 ct11), sl11⟩) (c11 : PySem.W.codeIn K cd11 "_law_source" = true) (k11 : PySem.W.keepIn K (.ref f11) = true)
    (a12 : PySem.W.nsIn K mainGlobals "_law_any" = some (some (.ref f12))) (l12 : K.lookup f12 = some ⟨oc12, od12, .func (PySem.W.fnOf "_law_any" "_law_any" (defArgs s_law_any) (defBody s_law_any) (defScope s_law_any) .none kV12 dc12 pm12 an12 cd12 ct12), sl12⟩) (c12 : PySem.W.codeIn K cd12 "_law_any" = true) (k12 : PySem.W.keepIn K (.ref f12) = true)
    (a13 : PySem.W.nsIn K mainGlobals "_law_of" = some (some (.ref f13))) (l13 : K.lookup f13 = some ⟨oc13, od13, .func (PySem.W.fnOf "_law_of" "_law_of" (defArgs s_law_of) (defBody s_law_of) (defScope s_law_of) .none kV13 dc13 pm13 an13 cd13 ct13), sl13⟩) (c13 : PySem.W.codeIn K cd13 "_law_of" = true) (k13 : PySem.W.keepIn K (.ref f13) = true)
    (a14 : PySem.W.nsIn K mainGlobals "_law_big" = some (some (.ref f14))) (l14 : K.lookup f14 = some ⟨oc14, od14, .func (PySem.W.fnOf "_law_big" "_law_big" (defArgs s_law_big) (defBody s_law_big) (defScope s_law_big) .none kV14 dc14 pm14 an14 cd14 ct14), sl14⟩) (c14 : PySem.W.codeIn K cd14 "_law_big" = true) (k14 : PySem.W.keepIn K (.ref f14) = true)
    (a15 : PySem.W.nsIn K mainGlobals "_law_signed" = some (some (.ref f15))) (l15 : K.lookup f15 = some ⟨oc15, od15, .func (PySem.W.fnOf "_law_signed" "_law_signed" (defArgs s_law_signed) (defBody s_law_signed) (defScope s_law_signed) .none kV15 dc15 pm15 an15 cd15 ct15), sl15⟩) (c15 : PySem.W.codeIn K cd15 "_law_signed" = true) (k15 : PySem.W.keepIn K (.ref f15) = true)
    (a16 : PySem.W.nsIn K mainGlobals "_law_low" = some (some (.ref f16))) (l16 : K.lookup f16 = some ⟨oc16, od16, .func (PySem.W.fnOf "_law_low" "_law_low" (defArgs s_law_low) (defBody s_law_low) (defScope s_law_low) .none kV16 dc16 pm16 an16 cd16 ct16), sl16⟩) (c16 : PySem.W.codeIn K cd16 "_law_low" = true) (k16 : PySem.W.keepIn K (.ref f16) = true)
    (a17 : PySem.W.nsIn K mainGlobals "_law_pair" = some (some (.ref f17))) (l17 : K.lookup f17 = some ⟨oc17, od17, .func (PySem.W.fnOf "_law_pair" "_law_pair" (defArgs s_law_pair) (defBody s_law_pair) (defScope s_law_pair) .none kV17 dc17 pm17 an17 cd17 ct17), sl17⟩) (c17 : PySem.W.codeIn K cd17 "_law_pair" = true) (k17 : PySem.W.keepIn K (.ref f17) = true)
    (a18 : PySem.W.nsIn K mainGlobals "_law_is" = some (some (.ref f18))) (l18 : K.lookup f18 = some ⟨oc18, od18, .func (PySem.W.fnOf "_law_is" "_law_is" (defArgs s_law_is) (defBody s_law_is) (defScope s_law_is) .none kV18 dc18 pm18 an18 cd18 ct18), sl18⟩) (c18 : PySem.W.codeIn K cd18 "_law_is" = true) (k18 : PySem.W.keepIn K (.ref f18) = true)
    (a19 : PySem.W.nsIn K mainGlobals "_law_number_is" = some (some (.ref f19))) (l19 : K.lookup f19 = some ⟨oc19, od19, .func (PySem.W.fnOf "_law_number_is" "_law_number_is" (defArgs s_law_number_is) (defBody s_law_number_is) (defScope s_law_number_is) .none kV19 dc19 pm19 an19 cd19 ct19), sl19⟩) (c19 : PySem.W.codeIn K cd19 "_law_number_is" = true) (k19 : PySem.W.keepIn K (.ref f19) = true)
    (a20 : PySem.W.nsIn K mainGlobals "_law_flag_is" = some (some (.ref f20))) (l20 : K.lookup f20 = some ⟨oc20, od20, .func (PySem.W.fnOf "_law_flag_is" "_law_flag_is" (defArgs s_law_flag_is) (defBody s_law_flag_is) (defScope s_law_flag_is) .none kV20 dc20 pm20 an20 cd20 ct20), sl20⟩) (c20 : PySem.W.codeIn K cd20 "_law_flag_is" = true) (k20 : PySem.W.keepIn K (.ref f20) = true)
    (a21 : PySem.W.nsIn K mainGlobals "_law_two" = some (some (.ref f21))) (l21 : K.lookup f21 = some ⟨oc21, od21, .func (PySem.W.fnOf "_law_two" "_law_two" (defArgs s_law_two) (defBody s_law_two) (defScope s_law_two) .none kV21 dc21 pm21 an21 cd21 ct21), sl21⟩) (c21 : PySem.W.codeIn K cd21 "_law_two" = true) (k21 : PySem.W.keepIn K (.ref f21) = true)
    (a22 : PySem.W.nsIn K mainGlobals "_law_quotient" = some (some (.ref f22))) (l22 : K.lookup f22 = some ⟨oc22, od22, .func (PySem.W.fnOf "_law_quotient" "_law_quotient" (defArgs s_law_quotient) (defBody s_law_quotient) (defScope s_law_quotient) .none kV22 dc22 pm22 an22 cd22 ct22), sl22⟩) (c22 : PySem.W.codeIn K cd22 "_law_quotient" = true) (k22 : PySem.W.keepIn K (.ref f22) = true)
    (a23 : PySem.W.nsIn K mainGlobals "_law_rows" = some (some (.ref f23))) (l23 : K.lookup f23 = some ⟨oc23, od23, .func (PySem.W.fnOf "_law_rows" "_law_rows" (defArgs s_law_rows) (defBody s_law_rows) (defScope s_law_rows) .none kV23 dc23 pm23 an23 cd23 ct23), sl23⟩) (c23 : PySem.W.codeIn K cd23 "_law_rows" = true) (k23 : PySem.W.keepIn K (.ref f23) = true)
    (a24 : PySem.W.nsIn K mainGlobals "_law_apart" = some (some (.ref f24))) (l24 : K.lookup f24 = some ⟨oc24, od24, .func (PySem.W.fnOf "_law_apart" "_law_apart" (defArgs s_law_apart) (defBody s_law_apart) (defScope s_law_apart) .none kV24 dc24 pm24 an24 cd24 ct24), sl24⟩) (c24 : PySem.W.codeIn K cd24 "_law_apart" = true) (k24 : PySem.W.keepIn K (.ref f24) = true)
    (a25 : PySem.W.nsIn K mainGlobals "_law_steps" = some (some (.ref f25))) (l25 : K.lookup f25 = some ⟨oc25, od25, .func (PySem.W.fnOf "_law_steps" "_law_steps" (defArgs s_law_steps) (defBody s_law_steps) (defScope s_law_steps) .none kV25 dc25 pm25 an25 cd25 ct25), sl25⟩) (c25 : PySem.W.codeIn K cd25 "_law_steps" = true) (k25 : PySem.W.keepIn K (.ref f25) = true)
    (a26 : PySem.W.nsIn K mainGlobals "law" = some (some (.ref f26))) (l26 : K.lookup f26 = some ⟨oc26, od26, .func (PySem.W.fnOf "law" "law" (defArgs s_law) (defBody s_law) (defScope s_law) .none kV26 dc26 pm26 an26 cd26 ct26), sl26⟩) (c26 : PySem.W.codeIn K cd26 "law" = true) (k26 : PySem.W.keepIn K (.ref f26) = true)
    (z_abs : PySem.W.nsIn K mainGlobals "abs" = some none)
    (z_bool : PySem.W.nsIn K mainGlobals "bool" = some none)
    (z_int : PySem.W.nsIn K mainGlobals "int" = some none)
    (z_isinstance : PySem.W.nsIn K mainGlobals "isinstance" = some none)
    (z_len : PySem.W.nsIn K mainGlobals "len" = some none)
    (z_list : PySem.W.nsIn K mainGlobals "list" = some none)
    (z_range : PySem.W.nsIn K mainGlobals "range" = some none)
    (z_sum : PySem.W.nsIn K mainGlobals "sum" = some none)
    (z_tuple : PySem.W.nsIn K mainGlobals "tuple" = some none)
    (z_zip : PySem.W.nsIn K mainGlobals "zip" = some none)
    (l_gcd : PySem.W.nsIn K mainGlobals "gcd" = some (some (.builtin "math.gcd"))) :
    ∃ fd : FuncData, (∀ (s : Shared) (v : Value), BindsTo s fd ⟨[v], []⟩ [("script", v)]) ∧ ∀ base : Heap, K.In base → base.Ns mainGlobals mg → FnOk l.prog w K mg base CX0 7 fa fd ["script"] (spLaw K) := by
  have e := hfa.symm.trans (PySem.W.mg_of X G a26)
  cases e
  have F0 := fun_mk (st := s_fraction) l0 c0 k0
  have b0 := F0.binds (ps := ["top", "bottom"]) fun _ _ _ _ _ _ us hl => match us, hl with | [_, _], _ => rfl
  have F1 := fun_mk (st := s_added) l1 c1 k1
  have b1 := F1.binds (ps := ["one", "other"]) fun _ _ _ _ _ _ us hl => match us, hl with | [_, _], _ => rfl
  have F2 := fun_mk (st := s_less) l2 c2 k2
  have b2 := F2.binds (ps := ["one", "other"]) fun _ _ _ _ _ _ us hl => match us, hl with | [_, _], _ => rfl
  have F3 := fun_mk (st := s_multiplied) l3 c3 k3
  have b3 := F3.binds (ps := ["one", "other"]) fun _ _ _ _ _ _ us hl => match us, hl with | [_, _], _ => rfl
  have F4 := fun_mk (st := s_divided) l4 c4 k4
  have b4 := F4.binds (ps := ["one", "other"]) fun _ _ _ _ _ _ us hl => match us, hl with | [_, _], _ => rfl
  have F5 := fun_mk (st := s_compared) l5 c5 k5
  have b5 := F5.binds (ps := ["one", "other"]) fun _ _ _ _ _ _ us hl => match us, hl with | [_, _], _ => rfl
  have F6 := fun_mk (st := s_worth) l6 c6 k6
  have b6 := F6.binds (ps := ["fractions", "numbers"]) fun _ _ _ _ _ _ us hl => match us, hl with | [_, _], _ => rfl
  have F7 := fun_mk (st := s_is_whole) l7 c7 k7
  have b7 := F7.binds (ps := ["one"]) fun _ _ _ _ _ _ us hl => match us, hl with | [_], _ => rfl
  have F8 := fun_mk (st := s_floor_of) l8 c8 k8
  have b8 := F8.binds (ps := ["one"]) fun _ _ _ _ _ _ us hl => match us, hl with | [_], _ => rfl
  have F9 := fun_mk (st := s_bottom_of) l9 c9 k9
  have b9 := F9.binds (ps := ["fractions"]) fun _ _ _ _ _ _ us hl => match us, hl with | [_], _ => rfl
  have F10 := fun_mk (st := s_whole_times) l10 c10 k10
  have b10 := F10.binds (ps := ["fractions", "number"]) fun _ _ _ _ _ _ us hl => match us, hl with | [_, _], _ => rfl
  have F11 := fun_mk (st := s_law_source) l11 c11 k11
  have b11 := F11.binds (ps := ["script", "salt"]) fun _ _ _ _ _ _ us hl => match us, hl with | [_, _], _ => rfl
  have F12 := fun_mk (st := s_law_any) l12 c12 k12
  have b12 := F12.binds (ps := ["draws", "bound"]) fun _ _ _ _ _ _ us hl => match us, hl with | [_, _], _ => rfl
  have F13 := fun_mk (st := s_law_of) l13 c13 k13
  have b13 := F13.binds (ps := ["draws", "some"]) fun _ _ _ _ _ _ us hl => match us, hl with | [_, _], _ => rfl
  have F14 := fun_mk (st := s_law_big) l14 c14 k14
  have b14 := F14.binds (ps := ["draws"]) fun _ _ _ _ _ _ us hl => match us, hl with | [_], _ => rfl
  have F15 := fun_mk (st := s_law_signed) l15 c15 k15
  have b15 := F15.binds (ps := ["draws"]) fun _ _ _ _ _ _ us hl => match us, hl with | [_], _ => rfl
  have F16 := fun_mk (st := s_law_low) l16 c16 k16
  have b16 := F16.binds (ps := ["top", "bottom"]) fun _ _ _ _ _ _ us hl => match us, hl with | [_, _], _ => rfl
  have F17 := fun_mk (st := s_law_pair) l17 c17 k17
  have b17 := F17.binds (ps := ["draws"]) fun _ _ _ _ _ _ us hl => match us, hl with | [_], _ => rfl
  have F18 := fun_mk (st := s_law_is) l18 c18 k18
  have b18 := F18.binds (ps := ["told", "due"]) fun _ _ _ _ _ _ us hl => match us, hl with | [_, _], _ => rfl
  have F19 := fun_mk (st := s_law_number_is) l19 c19 k19
  have b19 := F19.binds (ps := ["told", "due"]) fun _ _ _ _ _ _ us hl => match us, hl with | [_, _], _ => rfl
  have F20 := fun_mk (st := s_law_flag_is) l20 c20 k20
  have b20 := F20.binds (ps := ["told", "due"]) fun _ _ _ _ _ _ us hl => match us, hl with | [_, _], _ => rfl
  have F21 := fun_mk (st := s_law_two) l21 c21 k21
  have b21 := F21.binds (ps := ["draws"]) fun _ _ _ _ _ _ us hl => match us, hl with | [_], _ => rfl
  have F22 := fun_mk (st := s_law_quotient) l22 c22 k22
  have b22 := F22.binds (ps := ["draws"]) fun _ _ _ _ _ _ us hl => match us, hl with | [_], _ => rfl
  have F23 := fun_mk (st := s_law_rows) l23 c23 k23
  have b23 := F23.binds (ps := ["draws"]) fun _ _ _ _ _ _ us hl => match us, hl with | [_], _ => rfl
  have F24 := fun_mk (st := s_law_apart) l24 c24 k24
  have b24 := F24.binds (ps := ["draws"]) fun _ _ _ _ _ _ us hl => match us, hl with | [_], _ => rfl
  have F25 := fun_mk (st := s_law_steps) l25 c25 k25
  have b25 := F25.binds (ps := ["draws"]) fun _ _ _ _ _ _ us hl => match us, hl with | [_], _ => rfl
  have F26 := fun_mk (st := s_law) l26 c26 k26
  have b26 := F26.binds (ps := ["script"]) fun _ _ _ _ _ _ us hl => match us, hl with | [_], _ => rfl
  let T : Tx K mg :=
    { fraction := f0
      fraction_fd := _
      fraction_F := F0
      fraction_m := PySem.W.mg_of X G a0
      fraction_b := b0
      added := f1
      added_fd := _
      added_F := F1
      added_m := PySem.W.mg_of X G a1
      added_b := b1
      less := f2
      less_fd := _
      less_F := F2
      less_m := PySem.W.mg_of X G a2
      less_b := b2
      multiplied := f3
      multiplied_fd := _
      multiplied_F := F3
      multiplied_m := PySem.W.mg_of X G a3
      multiplied_b := b3
      divided := f4
      divided_fd := _
      divided_F := F4
      divided_m := PySem.W.mg_of X G a4
      divided_b := b4
      compared := f5
      compared_fd := _
      compared_F := F5
      compared_m := PySem.W.mg_of X G a5
      compared_b := b5
      worth := f6
      worth_fd := _
      worth_F := F6
      worth_m := PySem.W.mg_of X G a6
      worth_b := b6
      is_whole := f7
      is_whole_fd := _
      is_whole_F := F7
      is_whole_m := PySem.W.mg_of X G a7
      is_whole_b := b7
      floor_of := f8
      floor_of_fd := _
      floor_of_F := F8
      floor_of_m := PySem.W.mg_of X G a8
      floor_of_b := b8
      bottom_of := f9
      bottom_of_fd := _
      bottom_of_F := F9
      bottom_of_m := PySem.W.mg_of X G a9
      bottom_of_b := b9
      whole_times := f10
      whole_times_fd := _
      whole_times_F := F10
      whole_times_m := PySem.W.mg_of X G a10
      whole_times_b := b10
      law_source := f11
      law_source_fd := _
      law_source_F := F11
      law_source_m := PySem.W.mg_of X G a11
      law_source_b := b11
      law_any := f12
      law_any_fd := _
      law_any_F := F12
      law_any_m := PySem.W.mg_of X G a12
      law_any_b := b12
      law_of := f13
      law_of_fd := _
      law_of_F := F13
      law_of_m := PySem.W.mg_of X G a13
      law_of_b := b13
      law_big := f14
      law_big_fd := _
      law_big_F := F14
      law_big_m := PySem.W.mg_of X G a14
      law_big_b := b14
      law_signed := f15
      law_signed_fd := _
      law_signed_F := F15
      law_signed_m := PySem.W.mg_of X G a15
      law_signed_b := b15
      law_low := f16
      law_low_fd := _
      law_low_F := F16
      law_low_m := PySem.W.mg_of X G a16
      law_low_b := b16
      law_pair := f17
      law_pair_fd := _
      law_pair_F := F17
      law_pair_m := PySem.W.mg_of X G a17
      law_pair_b := b17
      law_is := f18
      law_is_fd := _
      law_is_F := F18
      law_is_m := PySem.W.mg_of X G a18
      law_is_b := b18
      law_number_is := f19
      law_number_is_fd := _
      law_number_is_F := F19
      law_number_is_m := PySem.W.mg_of X G a19
      law_number_is_b := b19
      law_flag_is := f20
      law_flag_is_fd := _
      law_flag_is_F := F20
      law_flag_is_m := PySem.W.mg_of X G a20
      law_flag_is_b := b20
      law_two := f21
      law_two_fd := _
      law_two_F := F21
      law_two_m := PySem.W.mg_of X G a21
      law_two_b := b21
      law_quotient := f22
      law_quotient_fd := _
      law_quotient_F := F22
      law_quotient_m := PySem.W.mg_of X G a22
      law_quotient_b := b22
      law_rows := f23
      law_rows_fd := _
      law_rows_F := F23
      law_rows_m := PySem.W.mg_of X G a23
      law_rows_b := b23
      law_apart := f24
      law_apart_fd := _
      law_apart_F := F24
      law_apart_m := PySem.W.mg_of X G a24
      law_apart_b := b24
      law_steps := f25
      law_steps_fd := _
      law_steps_F := F25
      law_steps_m := PySem.W.mg_of X G a25
      law_steps_b := b25
      law := fa
      law_fd := _
      law_F := F26
      law_m := PySem.W.mg_of X G a26
      law_b := b26
      z_abs := PySem.W.mg_none_of X G z_abs
      z_bool := PySem.W.mg_none_of X G z_bool
      z_int := PySem.W.mg_none_of X G z_int
      z_isinstance := PySem.W.mg_none_of X G z_isinstance
      z_len := PySem.W.mg_none_of X G z_len
      z_list := PySem.W.mg_none_of X G z_list
      z_range := PySem.W.mg_none_of X G z_range
      z_sum := PySem.W.mg_none_of X G z_sum
      z_tuple := PySem.W.mg_none_of X G z_tuple
      z_zip := PySem.W.mg_none_of X G z_zip
      l_gcd := PySem.W.mg_of X G l_gcd }
  exact ⟨PySem.W.fnOf "law" "law" (defArgs s_law) (defBody s_law) (defScope s_law) .none kV26 dc26 pm26 an26 cd26 ct26, fun s v => .of_eq rfl, fun base _ _ => ok_law T⟩
end K24
open PySem PySem.W PyProof.Rows
set_option maxRecDepth 100000 in
set_option maxHeartbeats 0 in
theorem PySem.Challenge.cw_caseshome_k24_whole_fractions_holds : PySem.Challenge.rw_caseshome_k24_whole_fractions.Holds := by
  w_on; o_law; k_head; (case hw => w_witness2)
  k_fill
  refine L2.walk_of (l := PySem.Challenge.rw_caseshome_k24_whole_fractions) (n := 63) (k := 7) (x := "script") (CX := fun _ => L2.CX0) (sp := fun w => K24.spLaw _) rfl (by decide) rfl ⟨rfl, by decide, by decide⟩ (fun w h Y => PySem.W.kIn_of Y) ?F (fun _ _ a ns hl _ hS => ⟨a, ns, rfl, hS, hl, fun _ => rfl⟩) (fun _ _ _ _ _ h => h)
  case F =>
    intro w mg fa h KX G hmg
    refine' K24.all_mk KX G hmg ?a0 ?l0 ?c0 ?k0 ?a1 ?l1 ?c1 ?k1 ?a2 ?l2 ?c2 ?k2 ?a3 ?l3 ?c3 ?k3 ?a4 ?l4 ?c4 ?k4 ?a5 ?l5 ?c5 ?k5 ?a6 ?l6 ?c6 ?k6 ?a7 ?l7 ?c7 ?k7 ?a8 ?l8 ?c8 ?k8 ?a9 ?l9 ?c9 ?k9 ?a10 ?l10 ?c10 ?k10 ?a11 ?l11 ?c11 ?k11 ?a12 ?l12 ?c12 ?k12 ?a13 ?l13 ?c13 ?k13 ?a14 ?l14 ?c14 ?k14 ?a15 ?l15 ?c15 ?k15 ?a16 ?l16 ?c16 ?k16 ?a17 ?l17 ?c17 ?k17 ?a18 ?l18 ?c18 ?k18 ?a19 ?l19 ?c19 ?k19 ?a20 ?l20 ?c20 ?k20 ?a21 ?l21 ?c21 ?k21 ?a22 ?l22 ?c22 ?k22 ?a23 ?l23 ?c23 ?k23 ?a24 ?l24 ?c24 ?k24 ?a25 ?l25 ?c25 ?k25 ?a26 ?l26 ?c26 ?k26 ?z_abs ?z_bool ?z_int ?z_isinstance ?z_len ?z_list ?z_range ?z_sum ?z_tuple ?z_zip ?l_gcd
    (case a0 => k_is)
    (case l0 => k_is)
    (case c0 => k_is)
    (case k0 => k_is)
    (case a1 => k_is)
    (case l1 => k_is)
    (case c1 => k_is)
    (case k1 => k_is)
    (case a2 => k_is)
    (case l2 => k_is)
    (case c2 => k_is)
    (case k2 => k_is)
    (case a3 => k_is)
    (case l3 => k_is)
    (case c3 => k_is)
    (case k3 => k_is)
    (case a4 => k_is)
    (case l4 => k_is)
    (case c4 => k_is)
    (case k4 => k_is)
    (case a5 => k_is)
    (case l5 => k_is)
    (case c5 => k_is)
    (case k5 => k_is)
    (case a6 => k_is)
    (case l6 => k_is)
    (case c6 => k_is)
    (case k6 => k_is)
    (case a7 => k_is)
    (case l7 => k_is)
    (case c7 => k_is)
    (case k7 => k_is)
    (case a8 => k_is)
    (case l8 => k_is)
    (case c8 => k_is)
    (case k8 => k_is)
    (case a9 => k_is)
    (case l9 => k_is)
    (case c9 => k_is)
    (case k9 => k_is)
    (case a10 => k_is)
    (case l10 => k_is)
    (case c10 => k_is)
    (case k10 => k_is)
    (case a11 => k_is)
    (case l11 => k_is)
    (case c11 => k_is)
    (case k11 => k_is)
    (case a12 => k_is)
    (case l12 => k_is)
    (case c12 => k_is)
    (case k12 => k_is)
    (case a13 => k_is)
    (case l13 => k_is)
    (case c13 => k_is)
    (case k13 => k_is)
    (case a14 => k_is)
    (case l14 => k_is)
    (case c14 => k_is)
    (case k14 => k_is)
    (case a15 => k_is)
    (case l15 => k_is)
    (case c15 => k_is)
    (case k15 => k_is)
    (case a16 => k_is)
    (case l16 => k_is)
    (case c16 => k_is)
    (case k16 => k_is)
    (case a17 => k_is)
    (case l17 => k_is)
    (case c17 => k_is)
    (case k17 => k_is)
    (case a18 => k_is)
    (case l18 => k_is)
    (case c18 => k_is)
    (case k18 => k_is)
    (case a19 => k_is)
    (case l19 => k_is)
    (case c19 => k_is)
    (case k19 => k_is)
    (case a20 => k_is)
    (case l20 => k_is)
    (case c20 => k_is)
    (case k20 => k_is)
    (case a21 => k_is)
    (case l21 => k_is)
    (case c21 => k_is)
    (case k21 => k_is)
    (case a22 => k_is)
    (case l22 => k_is)
    (case c22 => k_is)
    (case k22 => k_is)
    (case a23 => k_is)
    (case l23 => k_is)
    (case c23 => k_is)
    (case k23 => k_is)
    (case a24 => k_is)
    (case l24 => k_is)
    (case c24 => k_is)
    (case k24 => k_is)
    (case a25 => k_is)
    (case l25 => k_is)
    (case c25 => k_is)
    (case k25 => k_is)
    (case a26 => k_is)
    (case l26 => k_is)
    (case c26 => k_is)
    (case k26 => k_is)
    (case z_abs => k_is)
    (case z_bool => k_is)
    (case z_int => k_is)
    (case z_isinstance => k_is)
    (case z_len => k_is)
    (case z_list => k_is)
    (case z_range => k_is)
    (case z_sum => k_is)
    (case z_tuple => k_is)
    (case z_zip => k_is)
    (case l_gcd => k_is)
#print axioms PySem.Challenge.cw_caseshome_k24_whole_fractions_holds
