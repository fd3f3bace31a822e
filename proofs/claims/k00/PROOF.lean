import PyProof.Rows.All
import Wide.All
import OpenK.AllK
import Wide.FinOn
import HandS.ForMost
import HandS.Wide
import HandS.WideBits
import HandS.Gcd
import HandS.IsInst
import HandS.Defaults
import HandS.Style
import HandS.Evl
import KE.KFromBytes
import HandS.Exc
import HandS.ExcInit
import HandS.ExcField
import HandS.ExcIs
import HandS.ExcValue
import KE.KExcIs
import HandS.TryMany
import HandS.More
import KE.KIntText
import KE.IntTextLaws
import PyProof.StrOps2
import HandS.Codes
import HandS.ExcOwn
import HandS.ExcBuiltin
import HandS.WordsExc
import KE.KEqNest
import PySem.Challenge.RW_caseshome_k00_whole_errors_and_what_they
set_option Elab.async false
set_option linter.all false
set_option maxRecDepth 100000
set_option maxHeartbeats 4000000
/-! Rules of my own over the hand layer: a list that is told by a property alone, calls by keywords alone, // of any great ints. -/
namespace Pre
open PySem PySem.Spec PyProof.Rows L2

/-! ### a list of which a property is known, and no more: whoever changes it keeps the property -/
def LstX (a : Addr) (P : List V → Prop) : HO := .ext fun h => ∃ (xs : List V) (its : List Value) (n : Nat), P xs ∧ xs.length ≤ sizeLine ∧ Vals xs its ∧ h.get? a = some { cls := .type "list", data := .seq its.toArray n }
section
variable {X : Cx} {pins : List (Addr × Obj)} {σ : L2.St} {H : Hp} {s : Shared} {a : Addr} {P : List V → Prop} {xs : List V} {o : HO}
theorem redesc {ob : Obj} (I : Inv X pins σ H s) (mu : Mut (H a)) (hg : s.heap.get? a = some ob) (new : ObjOk X.prog X.w (upd H a o) s.heap a o) : Inv X pins σ (upd H a o) s :=
  I.write (e := a) (h' := s.heap) (t' := s.toks) mu (.inl rfl) (fun _ _ _ q => q) ⟨_, hg⟩ new
theorem open_inv (I : Inv X pins σ H s) (h : H a = some (LstX a P)) : ∃ xs, P xs ∧ xs.length ≤ sizeLine ∧ Inv X pins σ (upd H a (.lst xs)) s := by
  obtain ⟨⟨xs, its, n, p, hz, hv, hg⟩, _, _⟩ := I.hok a _ h
  refine ⟨xs, p, hz, redesc I ?_ hg ⟨hz, its, n, hv, hg⟩⟩
  rw [h]
  exact True.intro
theorem close_inv (I : Inv X pins σ H s) (h : H a = some (.lst xs)) (p : P xs) : Inv X pins σ (upd H a (LstX a P)) s := by
  obtain ⟨hz, its, n, hv, hg⟩ := I.hok a _ h
  refine redesc I ?_ hg ⟨⟨xs, its, n, p, hz, hv, hg⟩, ⟨_, hg⟩, fun h1 h2 ⟨xs, its, n, p, hz, hv, hg⟩ k => ⟨xs, its, n, p, hz, hv, k _ hg⟩⟩
  rw [h]
  exact True.intro
/-- ahead of a body: such a list is looked into -/
def tOpen (t : TS) : TS := fun D σ H => ∃ (a : Addr) (P : List V → Prop), H a = some (LstX a P) ∧ ∀ xs, P xs → xs.length ≤ sizeLine → t D σ (upd H a (.lst xs))
theorem pss_open {body : List Stmt} {t : TS} (h : PSs X body t) : PSs X body (tOpen t) := ⟨fun pins s σ H D I q => by
  obtain ⟨a, P, ha, k⟩ := q
  obtain ⟨xs, p, hz, I1⟩ := open_inv I ha
  exact h.run pins s σ _ D I1 (k xs p hz)⟩
/-- behind a value: the list is shut again -/
def tClose (te : TE) : TE := fun σ H Q => te σ H fun v H1 => ∃ (a : Addr) (P : List V → Prop) (xs : List V), H1 a = some (.lst xs) ∧ P xs ∧ Q v (upd H1 a (LstX a P))
theorem pe_close {e : Expr} {te : TE} (h : PE X e te) : PE X e (tClose te) := ⟨fun pins s σ H Q I q => thn (h.run pins s σ H _ I q) fun v s1 ⟨x, H1, I1, r, a, P, xs, hx, p, q⟩ => ⟨x, _, close_inv I1 hx p, r, q⟩⟩
end

/-! ### calls by keywords alone -/
section
variable {X : Cx} {CX : CXT} {k : Nat} {f : Addr} {fd : FuncData} {ps ks : List Str} {sp : Sp} {E : XK} {x : Str} {p pos : Pos} {kws : List Keyword} {tk : TA} {g : List Value → List Value → List Value} {gV : List V → List V → List V}
theorem pe_callK0 (F : FnOk X.prog X.w X.K X.mg X.base CX k f fd ps sp) (hr : Room k X.A) (hg : Gl X x) (hm : X.mg x = some (.ref f)) (hk : PySem.W.keepIn X.K (.ref f) = true) (hb : KBn X.K fd ps 0 ks g gV) (hx : Passes CX X E) (hkw : PK X kws tk)
    (hall : (backToKw pos (keywordEach kws X.env)).all (·.1.isSome) = true := by rfl) (hks : (backToKw pos (keywordEach kws X.env)).filterMap (·.1) = ks := by rfl) (hdb : (x == ("__debug__" : Str)) = false := by decide)
    (hpl : ((backTo pos (starEach [] X.env)).any (·.1) || (backToKw pos (keywordEach kws X.env)).any (·.1.isNone)) = false := by rfl) :
    PE X (.Call (.Name x p) [] kws pos) (tCallN 0 ks.length sp gV E tNil tk) := by
  refine ⟨fun pins s σ H Q I h => ?_⟩
  refine wpAny_Call_Name_kw (ld_glob I hg hm ?_ hdb)
  refine PySem.W.callWith_KW0 (h₀ := X.base) I.ok.mod.kin hk hall ?_ hpl
  refine thn (hkw.run pos pins s σ H _ I h) fun ws s2 ⟨zs, H2, I2, rz, l1, l2, q2⟩ => ⟨I2.kIn, ?_⟩
  rw [hks]
  exact run_fnN (us := []) (vs := []) F hr hb hx I2 .nil rz rfl l2 q2
end

/-! ### // of any ints (the divisor below 2 ^ 9000 in size) -/
def CDivG (_ j : Int) : Prop := j ≠ 0 ∧ j.natAbs.log2 < 9000
section
variable {X : Cx}
theorem op_fdivG : OpR X (binaryOp .FloorDiv) (rI CDivG fun i j => .int (i.fdiv j)) := opI fun i j _ _ _ _ _ hc q => floordiv_int hc.1 q (.inl (PyProof.noPylong_of_log2 hc.2))
end
theorem div_ok {i j : Int} {b : Nat} (h : j ≠ 0) (hb : j.natAbs < 2 ^ b) (h0 : 0 < b := by decide) (h9 : b ≤ 9000 := by decide) : CDivG i j := ⟨h, Nat.lt_of_lt_of_le (PySem.Flt.log2_lt_of h0 hb) h9⟩

/-! ### what stays -/
abbrev Ex := Evl.Ex
theorem ex_trk {H H1 H' : Hp} {p : Addr} {o o' : HO} (e : Ex H H1) (n : H p = none) : Ex H (upd H1 p o) := Evl.Ex.mut e n
theorem exg {H H' : Hp} {p : Addr} {o : HO} (e : Ex H H') (h : H p = some o) : H' p = some o := e p o h
theorem exl {K : PySem.W.Frag} {H H' : Hp} {a : Addr} {xs : List V} (e : Ex H H') (h : SqL K H a xs) : SqL K H' a xs := Evl.ex_l e h
theorem ext {K : PySem.W.Frag} {H H' : Hp} {a : Addr} {xs : List V} (e : Ex H H') (h : SqT K H a xs) : SqT K H' a xs := Evl.ex_t e h
theorem ex0 {H : Hp} : Ex H H := fun _ _ h => h
theorem exn {H : Hp} {p : Addr} {o : HO} (h : H p = none) : Ex H (upd H p o) := Evl.Ex.new h
theorem decI (a b : Int) : decide (V.int a = V.int b) = decide (a = b) := by
  by_cases h : a = b
  · rw [h]
    simp
  · rw [decide_eq_false h, decide_eq_false (fun q => h (V.int.inj q))]

/-! ### a list or a tuple, walked -/
/-- the value is a list, or a tuple, of these -/
def SqV (K : PySem.W.Frag) (H : Hp) (a : Addr) (xs : List V) : Prop := SqL K H a xs ∨ SqT K H a xs
theorem SqV.ex {K : PySem.W.Frag} {H H' : Hp} {a : Addr} {xs : List V} (h : SqV K H a xs) (e : Ex H H') : SqV K H' a xs := by
  rcases h with h | h
  · exact .inl (exl e h)
  · exact .inr (ext e h)
def iSeq (K : PySem.W.Frag) (tl : TE) : TI := fun σ H R => iList K tl σ H R ∨ iTup K tl σ H R
theorem pi_seq {X : Cx} {tg l : Expr} {tl : TE} (h : PE X l tl) : PI X tg l (iSeq X.K tl) := ⟨fun pins s σ H R I q => q.elim (fun q => (pi_list h).run pins s σ H R I q) (fun q => (pi_tup h).run pins s σ H R I q)⟩
/-- reads to a value, the heap as it is -/
def Rds (te : TE) (σ : L2.St) (H : Hp) (v : V) : Prop := ∀ Q : VK, Q v H → te σ H Q
theorem rds_var {σ : L2.St} {H : Hp} {i : Nat} {v : V} (h : σ[i]? = some (some v)) : Rds (tVar i) σ H v := fun _ q => ⟨v, h, q⟩
section
variable {K : PySem.W.Frag} {σ : L2.St} {H : Hp} {a : Addr} {xs : List V} {tl : TE} {g : TG} {tb : TS} {D : Ends}
/-- what a for asks of its walk -/
abbrev FK (g : TG) (tb : TS) (D : Ends) (σ : L2.St) : It → Hp → Prop := fun J H1 => ∃ W : Nat → Nat → L2.St → Hp → Prop, (∃ m, W 0 m σ H1) ∧ ∀ i m σ H, W i m σ H → (J.stop i H ∧ D.nx σ H) ∨ (J.go i H ∧ ∃ N : L2.St → Hp → Prop, (∀ σ' H', N σ' H' → ∃ m', m' < m ∧ W (i + 1) m' σ' H') ∧ ∀ x H', J.yld i H x H' → g x σ H' fun σ2 H2 => tb { D with nx := N, ct := N, bk := D.nx } σ2 H2)
theorem for_seq (hl : Rds tl σ H (.ref a)) (hx : SqV K H a xs) (Pv : Nat → L2.St → Hp → Prop) (h0 : Pv 0 σ H) (he : ∀ i σ' H', Pv i σ' H' → Ex H H')
    (hs : ∀ i x σ' H', xs[i]? = some x → Pv i σ' H' → g x σ' H' fun σ2 H2 => tb { D with nx := Pv (i + 1), ct := Pv (i + 1), bk := D.nx } σ2 H2) (hd : ∀ σ' H', Pv xs.length σ' H' → D.nx σ' H') :
    iList K tl σ H (FK g tb D σ) ∨ iTup K tl σ H (FK g tb D σ) := by
  rcases hx with hx | hx
  · exact .inl (hl _ ⟨a, rfl, ⟨xs, hx⟩, for_list Pv h0 (fun i σ' H' _ p => exl (he i σ' H' p) hx) hs hd⟩)
  · exact .inr (hl _ ⟨a, rfl, ⟨xs, hx⟩, for_tup Pv h0 (fun i σ' H' _ p => ext (he i σ' H' p) hx) hs hd⟩)
theorem for_lst (hl : Rds tl σ H (.ref a)) (hx : SqL K H a xs) (Pv : Nat → L2.St → Hp → Prop) (h0 : Pv 0 σ H) (he : ∀ i σ' H', Pv i σ' H' → Ex H H')
    (hs : ∀ i x σ' H', xs[i]? = some x → Pv i σ' H' → g x σ' H' fun σ2 H2 => tb { D with nx := Pv (i + 1), ct := Pv (i + 1), bk := D.nx } σ2 H2) (hd : ∀ σ' H', Pv xs.length σ' H' → D.nx σ' H') : tFor (iList K tl) g tb D σ H :=
  hl _ ⟨a, rfl, ⟨xs, hx⟩, for_list Pv h0 (fun i σ' H' _ p => exl (he i σ' H' p) hx) hs hd⟩

/-! ### comprehensions: what each turn gives, by a relation that stays while tuples stay -/
variable {tt : TT} {te : TE} {vs : List Nat} {Q : Addr → Hp → Prop}
/-- tuples stay -/
def ExT (H H' : Hp) : Prop := ∀ p ys, H p = some (.tup ys) → H' p = some (.tup ys)
theorem ExT.of {H H' : Hp} (e : Ex H H') : ExT H H' := fun p ys h => e p _ h
theorem ExT.lst {H : Hp} {p : Addr} {ys zs : List V} (h : H p = some (.lst ys)) : ExT H (upd H p (.lst zs)) := fun q us hq => by
  rw [upd_ne (ne_of hq h (by intro z; cases z))]
  exact hq
theorem ExT.trans {H H1 H2 : Hp} (a : ExT H H1) (b : ExT H1 H2) : ExT H H2 := fun p ys h => b p ys (a p ys h)
def Stays (R : Nat → V → Hp → Prop) : Prop := ∀ i y H H', ExT H H' → R i y H → R i y H'
/-- behind i turns: the list at Dl; if all turns give, one item each -/
structure Acc (H : Hp) (R : Nat → V → Hp → Prop) (all : Bool) (Dl : Addr) (i : Nat) (H' : Hp) : Prop where
  new : H Dl = none
  ex : Ex H H'
  at_ : ∃ ys : List V, H' Dl = some (.lst ys) ∧ ys.length ≤ i ∧ (all = true → ys.length = i) ∧ (∀ y, y ∈ ys → ∃ j, j < i ∧ R j y H') ∧ (all = true → ∀ j y, ys[j]? = some y → R j y H')
theorem Acc.start {R : Nat → V → Hp → Prop} {all : Bool} {Dl : Addr} (h : H Dl = none) : Acc H R all Dl 0 (upd H Dl (.lst [])) := by
  refine ⟨h, exn h, [], upd_same, Nat.le_refl _, fun _ => rfl, ?_, ?_⟩
  · intro y hy
    cases hy
  · intro _ j y hy
    cases hy
theorem Acc.give {R : Nat → V → Hp → Prop} {all : Bool} {Dl : Addr} {i : Nat} {H1 H4 : Hp} {y : V} (st : Stays R) (A : Acc H R all Dl i H1) (e : Ex H1 H4) (r : R i y H4) (hi : i < 1000) :
    ∃ acc, H4 Dl = some (.lst acc) ∧ acc.length < sizeLine ∧ Acc H R all Dl (i + 1) (upd H4 Dl (.lst (acc ++ [y]))) := by
  obtain ⟨new, ex, ys, h1, h2, h3, h4, h5⟩ := A
  have hD := e _ _ h1
  have x1 : ExT H4 (upd H4 Dl (.lst (ys ++ [y]))) := ExT.lst hD
  have x2 : ExT H1 (upd H4 Dl (.lst (ys ++ [y]))) := (ExT.of e).trans x1
  refine ⟨ys, hD, small1000 (by omega), new, Evl.Ex.mut (ex.trans e) new, ys ++ [y], upd_same, ?_, ?_, ?_, ?_⟩
  · rw [List.length_append]
    show ys.length + 1 ≤ i + 1
    omega
  · intro ha
    have := h3 ha
    rw [List.length_append]
    show ys.length + 1 = i + 1
    omega
  · intro z hz
    rcases List.mem_append.mp hz with q | q
    · obtain ⟨j, lt, rj⟩ := h4 z q
      exact ⟨j, by omega, st j z _ _ x2 rj⟩
    · rw [List.mem_singleton.mp q]
      exact ⟨i, by omega, st i y _ _ x1 r⟩
  · intro ha j z hz
    have hl := h3 ha
    by_cases hj : j < ys.length
    · rw [List.getElem?_append_left hj] at hz
      exact st j z _ _ x2 (h5 ha j z hz)
    · rw [List.getElem?_append_right (by omega)] at hz
      have hj0 : j - ys.length = 0 := by
        cases hq : j - ys.length with
        | zero => rfl
        | succ m =>
          rw [hq] at hz
          simp at hz
      rw [hj0] at hz
      have ez : y = z := Option.some.inj hz
      have ej : j = i := by omega
      rw [← ez, ej]
      exact st i y _ _ x1 r
theorem Acc.skip {R : Nat → V → Hp → Prop} {Dl : Addr} {i : Nat} {H1 H4 : Hp} (st : Stays R) (A : Acc H R false Dl i H1) (e : Ex H1 H4) : Acc H R false Dl (i + 1) H4 := by
  obtain ⟨new, ex, ys, h1, h2, h3, h4, h5⟩ := A
  refine ⟨new, ex.trans e, ys, e _ _ h1, by omega, fun q => (Bool.false_ne_true q).elim, ?_, fun q => (Bool.false_ne_true q).elim⟩
  intro z hz
  obtain ⟨j, lt, rj⟩ := h4 z hz
  exact ⟨j, by omega, st j z _ _ (ExT.of e) rj⟩
/-- what a comprehension has made -/
def Made (H : Hp) (R : Nat → V → Hp → Prop) (n : Nat) (Q : Addr → Hp → Prop) : Prop := ∀ (Dl : Addr) (H' : Hp) (ys : List V), H Dl = none → Ex H H' → H' Dl = some (.lst ys) → ys.length = n → (∀ (j : Nat) y, ys[j]? = some y → R j y H') → Q Dl H'
def Kept (H : Hp) (R : Nat → V → Hp → Prop) (n : Nat) (Q : Addr → Hp → Prop) : Prop := ∀ (Dl : Addr) (H' : Hp) (ys : List V), H Dl = none → Ex H H' → H' Dl = some (.lst ys) → ys.length ≤ n → (∀ y, y ∈ ys → ∃ j, j < n ∧ R j y H') → Q Dl H'
theorem Acc.made {R : Nat → V → Hp → Prop} {Dl : Addr} {n : Nat} {H1 : Hp} (A : Acc H R true Dl n H1) (k : Made H R n Q) : Q Dl H1 := by
  obtain ⟨new, ex, ys, h1, h2, h3, h4, h5⟩ := A
  exact k Dl H1 ys new ex h1 (h3 rfl) (h5 rfl)
theorem Acc.kept {R : Nat → V → Hp → Prop} {Dl : Addr} {n : Nat} {H1 : Hp} (A : Acc H R false Dl n H1) (k : Kept H R n Q) : Q Dl H1 := by
  obtain ⟨new, ex, ys, h1, h2, h3, h4, h5⟩ := A
  exact k Dl H1 ys new ex h1 h2 h4
theorem if_t {A B : Prop} : (if (true = true) then A else B) = A := if_pos rfl
/-- a turn that gives, told for any wish Y; a turn with a test, for any wishes Y and N -/
def Gives (g : TG) (te : TE) (vs : List Nat) (σ : L2.St) (x : V) (H1 : Hp) (R : V → Hp → Prop) : Prop :=
  ∀ Y : VK, (∀ y H4, Ex H1 H4 → R y H4 → Y y H4) → g x (wipe σ vs) H1 fun σ2 H2 => wipe σ2 vs = wipe σ vs ∧ te σ2 H2 Y
def Tests (g : TG) (tt : TT) (te : TE) (vs : List Nat) (σ : L2.St) (x : V) (H1 : Hp) (R : V → Hp → Prop) : Prop :=
  ∀ (Y : VK) (N : Hp → Prop), (∀ y H4, Ex H1 H4 → R y H4 → Y y H4) → (∀ H3, Ex H1 H3 → N H3) → g x (wipe σ vs) H1 fun σ2 H2 => wipe σ2 vs = wipe σ vs ∧ tt σ2 H2 fun b H3 => if b = true then te σ2 H3 Y else N H3
theorem Gives.tests {x : V} {H1 : Hp} {R : V → Hp → Prop} (h : Gives g te vs σ x H1 R) : Tests g tYes te vs σ x H1 R := fun Y N hy hn => by
  have e : (fun (σ2 : L2.St) (H2 : Hp) => wipe σ2 vs = wipe σ vs ∧ tYes σ2 H2 fun b H3 => if b = true then te σ2 H3 Y else N H3) = fun σ2 H2 => wipe σ2 vs = wipe σ vs ∧ te σ2 H2 Y := by
    funext σ2 H2
    exact congrArg (And (wipe σ2 vs = wipe σ vs)) (if_t (A := te σ2 H2 Y) (B := N H2))
  rw [e]
  exact h Y hy
theorem turn_of {R : Nat → V → Hp → Prop} {all : Bool} {Dl : Addr} {i : Nat} {x : V} {H1 : Hp} (st : Stays R) (A : Acc H R all Dl i H1) (hi : i < 1000) (hs : Tests g tt te vs σ x H1 (R i)) (hn : all = true → tt = tYes) :
    g x (wipe σ vs) H1 fun σ2 H2 => wipe σ2 vs = wipe σ vs ∧ tt σ2 H2 fun b H3 => if b = true then te σ2 H3 fun y H4 => ∃ acc, H4 Dl = some (.lst acc) ∧ acc.length < sizeLine ∧ Acc H R all Dl (i + 1) (upd H4 Dl (.lst (acc ++ [y]))) else Acc H R all Dl (i + 1) H3 := by
  cases all with
  | false => exact hs _ _ (fun y H4 e r => A.give st e r hi) (fun H3 e => A.skip st e)
  | true =>
    have ht := hn rfl
    subst ht
    have q := hs (fun y H4 => ∃ acc, H4 Dl = some (.lst acc) ∧ acc.length < sizeLine ∧ Acc H R true Dl (i + 1) (upd H4 Dl (.lst (acc ++ [y])))) (fun _ => True) (fun y H4 e r => A.give st e r hi) (fun _ _ => True.intro)
    have e : ∀ N : Hp → Prop, (fun (σ2 : L2.St) (H2 : Hp) => wipe σ2 vs = wipe σ vs ∧ tYes σ2 H2 fun b H3 => if b = true then te σ2 H3 fun y H4 => ∃ acc, H4 Dl = some (.lst acc) ∧ acc.length < sizeLine ∧ Acc H R true Dl (i + 1) (upd H4 Dl (.lst (acc ++ [y]))) else N H3) = fun σ2 H2 => wipe σ2 vs = wipe σ vs ∧ te σ2 H2 fun y H4 => ∃ acc, H4 Dl = some (.lst acc) ∧ acc.length < sizeLine ∧ Acc H R true Dl (i + 1) (upd H4 Dl (.lst (acc ++ [y]))) := fun N => by
      funext σ2 H2
      exact congrArg (And (wipe σ2 vs = wipe σ vs)) (if_t (B := N H2))
    rw [e]
    rw [e] at q
    exact q
section
variable {R : Nat → V → Hp → Prop}
/-- what is wanted of the list made at Dl -/
def MadeAt (H : Hp) (R : Nat → V → Hp → Prop) (n : Nat) (Dl : Addr) (Qd : Hp → Prop) : Prop := ∀ (H' : Hp) (ys : List V), Ex H H' → H' Dl = some (.lst ys) → ys.length = n → (∀ (j : Nat) y, ys[j]? = some y → R j y H') → Qd H'
def KeptAt (H : Hp) (R : Nat → V → Hp → Prop) (n : Nat) (Dl : Addr) (Qd : Hp → Prop) : Prop := ∀ (H' : Hp) (ys : List V), Ex H H' → H' Dl = some (.lst ys) → ys.length ≤ n → (∀ y, y ∈ ys → ∃ j, j < n ∧ R j y H') → Qd H'
theorem Acc.madeAt {R : Nat → V → Hp → Prop} {Dl : Addr} {n : Nat} {H1 : Hp} {Qd : Hp → Prop} (A : Acc H R true Dl n H1) (k : MadeAt H R n Dl Qd) : Qd H1 := by
  obtain ⟨new, ex, ys, h1, h2, h3, h4, h5⟩ := A
  exact k H1 ys ex h1 (h3 rfl) (h5 rfl)
theorem Acc.keptAt {R : Nat → V → Hp → Prop} {Dl : Addr} {n : Nat} {H1 : Hp} {Qd : Hp → Prop} (A : Acc H R false Dl n H1) (k : KeptAt H R n Dl Qd) : Qd H1 := by
  obtain ⟨new, ex, ys, h1, h2, h3, h4, h5⟩ := A
  exact k H1 ys ex h1 h2 h4
variable {Qd : Hp → Prop}
def made_range {lo : Int} {n : Nat} (st : Stays R) (hn : n ≤ 1000) (hs : ∀ i H1, i < n → Ex H H1 → Gives g te vs σ (.int (lo + i)) H1 (R i)) {Dl : Addr} (hD : H Dl = none) (k : MadeAt H R n Dl Qd) :=
  lc_range (lo := lo) (n := n) (g := g) (tt := tYes) (te := te) (vs := vs) (σ := σ) (H1 := H) (D := Dl) (Qd := Qd) (Acc H R true Dl) (Acc.start hD) (fun i H1 hi A => turn_of st A (by omega) (hs i H1 hi A.ex).tests fun _ => rfl) (fun _ A => A.madeAt k)
def made_list (st : Stays R) (hx : SqL K H a xs) (hn : xs.length ≤ 1000) (hs : ∀ i x H1, xs[i]? = some x → Ex H H1 → Gives g te vs σ x H1 (R i)) {Dl : Addr} (hD : H Dl = none) (k : MadeAt H R xs.length Dl Qd) :=
  lc_list (K := K) (a := a) (xs := xs) (g := g) (tt := tYes) (te := te) (vs := vs) (σ := σ) (H1 := H) (D := Dl) (Qd := Qd) (Acc H R true Dl) (Acc.start hD) (fun _ _ _ A => exl A.ex hx) (fun i x H1 hi A => turn_of st A (by have := (List.getElem?_eq_some_iff.mp hi).1; omega) (hs i x H1 hi A.ex).tests fun _ => rfl) (fun _ A => A.madeAt k)
def made_tup (st : Stays R) (hx : SqT K H a xs) (hn : xs.length ≤ 1000) (hs : ∀ i x H1, xs[i]? = some x → Ex H H1 → Gives g te vs σ x H1 (R i)) {Dl : Addr} (hD : H Dl = none) (k : MadeAt H R xs.length Dl Qd) :=
  lc_tup (K := K) (a := a) (xs := xs) (g := g) (tt := tYes) (te := te) (vs := vs) (σ := σ) (H1 := H) (D := Dl) (Qd := Qd) (Acc H R true Dl) (Acc.start hD) (fun _ _ _ A => ext A.ex hx) (fun i x H1 hi A => turn_of st A (by have := (List.getElem?_eq_some_iff.mp hi).1; omega) (hs i x H1 hi A.ex).tests fun _ => rfl) (fun _ A => A.madeAt k)
def kept_range {lo : Int} {n : Nat} (st : Stays R) (hn : n ≤ 1000) (hs : ∀ i H1, i < n → Ex H H1 → Tests g tt te vs σ (.int (lo + i)) H1 (R i)) {Dl : Addr} (hD : H Dl = none) (k : KeptAt H R n Dl Qd) :=
  lc_range (lo := lo) (n := n) (g := g) (tt := tt) (te := te) (vs := vs) (σ := σ) (H1 := H) (D := Dl) (Qd := Qd) (Acc H R false Dl) (Acc.start hD) (fun i H1 hi A => turn_of st A (by omega) (hs i H1 hi A.ex) fun q => (Bool.false_ne_true q).elim) (fun _ A => A.keptAt k)
def kept_list (st : Stays R) (hx : SqL K H a xs) (hn : xs.length ≤ 1000) (hs : ∀ i x H1, xs[i]? = some x → Ex H H1 → Tests g tt te vs σ x H1 (R i)) {Dl : Addr} (hD : H Dl = none) (k : KeptAt H R xs.length Dl Qd) :=
  lc_list (K := K) (a := a) (xs := xs) (g := g) (tt := tt) (te := te) (vs := vs) (σ := σ) (H1 := H) (D := Dl) (Qd := Qd) (Acc H R false Dl) (Acc.start hD) (fun _ _ _ A => exl A.ex hx) (fun i x H1 hi A => turn_of st A (by have := (List.getElem?_eq_some_iff.mp hi).1; omega) (hs i x H1 hi A.ex) fun q => (Bool.false_ne_true q).elim) (fun _ A => A.keptAt k)
/-- what a comprehension asks of its walk -/
abbrev LK (g : TG) (te : TE) (vs : List Nat) (σ : L2.St) (Q : Addr → Hp → Prop) : It → Hp → Prop := fun J H1 => ∀ D, H1 D = none → ∃ W : Nat → Nat → Hp → Prop, (∃ m, W 0 m (upd H1 D (.lst []))) ∧ ∀ i m H, W i m H →
  (J.stop i H ∧ Q D H) ∨ (J.go i H ∧ ∃ Nx : Hp → Prop, (∀ H', Nx H' → ∃ m', m' < m ∧ W (i + 1) m' H') ∧ ∀ x H', J.yld i H x H' → g x (wipe σ vs) H' fun σ2 H2 => wipe σ2 vs = wipe σ vs ∧ tYes σ2 H2 fun b H3 =>
    if b = true then te σ2 H3 fun y H4 => ∃ acc, H4 D = some (.lst acc) ∧ acc.length < sizeLine ∧ Nx (upd H4 D (.lst (acc ++ [y]))) else Nx H3)
theorem made_seq {tl : TE} (hl : Rds tl σ H (.ref a)) (st : Stays R) (hx : SqV K H a xs) (hn : xs.length ≤ 1000) (hs : ∀ i x H1, xs[i]? = some x → Ex H H1 → Gives g te vs σ x H1 (R i)) (k : Made H R xs.length Q) :
    iList K tl σ H (LK g te vs σ Q) ∨ iTup K tl σ H (LK g te vs σ Q) := by
  rcases hx with hx | hx
  · exact .inl (hl _ ⟨a, rfl, ⟨xs, hx⟩, fun Dl hD => made_list st hx hn hs hD fun H' ys e h1 h2 h3 => k Dl H' ys hD e h1 h2 h3⟩)
  · exact .inr (hl _ ⟨a, rfl, ⟨xs, hx⟩, fun Dl hD => made_tup st hx hn hs hD fun H' ys e h1 h2 h3 => k Dl H' ys hD e h1 h2 h3⟩)
end
end

/-! ### sizes -/
/-- the size of an int -/
def Sz (n : Nat) (i : Int) : Prop := i.natAbs < 2 ^ n
theorem Sz.mono {m n : Nat} {i : Int} (h : Sz m i) (k : m ≤ n) : Sz n i := Nat.lt_of_lt_of_le h (Nat.pow_le_pow_right (by decide) k)
theorem Sz.mul {m n : Nat} {i j : Int} (h : Sz m i) (k : Sz n j) : Sz (m + n) (i * j) := by
  unfold Sz
  rw [Int.natAbs_mul, Nat.pow_add]
  exact Nat.mul_lt_mul'' h k
theorem Sz.add {m n : Nat} {i j : Int} (h : Sz m i) (k : Sz n j) : Sz (max m n + 1) (i + j) := by
  have e : (i + j).natAbs ≤ i.natAbs + j.natAbs := Int.natAbs_add_le i j
  have h' : i.natAbs < 2 ^ (max m n) := h.mono (Nat.le_max_left _ _)
  have k' : j.natAbs < 2 ^ (max m n) := k.mono (Nat.le_max_right _ _)
  unfold Sz
  rw [Nat.pow_succ]
  omega
theorem Sz.neg {n : Nat} {i : Int} (h : Sz n i) : Sz n (-i) := by
  unfold Sz
  rw [Int.natAbs_neg]
  exact h
theorem Sz.sub {m n : Nat} {i j : Int} (h : Sz m i) (k : Sz n j) : Sz (max m n + 1) (i - j) := by
  have e : i - j = i + -j := Int.sub_eq_add_neg
  rw [e]
  exact h.add k.neg
theorem Sz.le {n : Nat} {i j : Int} (h : Sz n j) (k : i.natAbs ≤ j.natAbs) : Sz n i := Nat.lt_of_le_of_lt k h
theorem Sz.lt {n : Nat} {i : Int} {b : Int} (h0 : 0 ≤ i) (h : i < b) (hb : b ≤ ((2 ^ n : Nat) : Int)) : Sz n i := by
  unfold Sz
  omega
theorem mul_ok {m n : Nat} {i j : Int} (h : Sz m i) (k : Sz n j) (h0 : 0 < m := by decide) (h1 : 0 < n := by decide) (hm : m + n ≤ 1000000 := by decide) : CMulW i j := wide_mul h k h0 h1 hm
theorem mul_okE {m n : Nat} {i j : Int} (h : Sz m i) (k : Sz n j) (h0 : 0 < m) (h1 : 0 < n) (hm : m + n ≤ 1000000) : CMulW i j := wide_mul h k h0 h1 hm
theorem fdiv_okE {n : Nat} {i j : Int} (h : j ≠ 0) (k : Sz n j) (h0 : 0 < n) (hn : n ≤ 9000) : CDivG i j := div_ok h k h0 hn
theorem fdiv_ok {n : Nat} {i j : Int} (h : j ≠ 0) (k : Sz n j) (h0 : 0 < n := by decide) (hn : n ≤ 9000 := by decide) : CDivG i j := div_ok h k h0 hn

/-! ### draws: a list of a list of numbers and a number -/
def DIn : List V → Prop := fun xs => ∃ ns : List Int, xs = ns.map V.int ∧ (∀ n, n ∈ ns → 0 ≤ n) ∧ ns.length ≤ 63
def DOut (l : Addr) : List V → Prop := fun xs => ∃ b : Int, xs = [.ref l, .int b] ∧ 0 ≤ b ∧ b < 2147483647
def DrawsAt (H : Hp) (d : Addr) : Prop := ∃ l, d ≠ l ∧ H d = some (LstX d (DOut l)) ∧ H l = some (LstX l DIn)
theorem DrawsAt.ex {H H' : Hp} {d : Addr} (h : DrawsAt H d) (e : Ex H H') : DrawsAt H' d := by
  obtain ⟨l, n, h1, h2⟩ := h
  exact ⟨l, n, e _ _ h1, e _ _ h2⟩
/-- inside: the outer list, the inner one, all else as it was -/
structure Sd (H : Hp) (d l : Addr) (ns : List Int) (b : Int) (H1 : Hp) : Prop where
  hd : H1 d = some (.lst [.ref l, .int b])
  hl : H1 l = some (.lst (ns.map V.int))
  b0 : 0 ≤ b
  b1 : b < 2147483647
  n0 : ∀ n, n ∈ ns → 0 ≤ n
  nl : ns.length ≤ 63
  kp : ∀ x o, H x = some o → x ≠ d → x ≠ l → H1 x = some o
theorem Sd.nil {H : Hp} {d l : Addr} (h : DrawsAt H d) : True := True.intro
theorem Sd.new {H H1 : Hp} {d l : Addr} {ns : List Int} {b : Int} {p : Addr} {o : HO} (S : Sd H d l ns b H1) (np : H1 p = none) : Sd H d l ns b (upd H1 p o) := by
  obtain ⟨hd, hl, b0, b1, n0, nl, kp⟩ := S
  exact ⟨exn np _ _ hd, exn np _ _ hl, b0, b1, n0, nl, fun x o h a b => exn np _ _ (kp x o h a b)⟩
theorem Sd.inner {H H1 : Hp} {d l : Addr} {ns ms : List Int} {b : Int} (S : Sd H d l ns b H1) (hdl : d ≠ l) (m0 : ∀ n, n ∈ ms → 0 ≤ n) (ml : ms.length ≤ 63) : Sd H d l ms b (upd H1 l (.lst (ms.map V.int))) := by
  obtain ⟨hd, hl, b0, b1, n0, nl, kp⟩ := S
  exact ⟨by rw [upd_ne hdl]; exact hd, upd_same, b0, b1, m0, ml, fun x o h a b => by rw [upd_ne b]; exact kp x o h a b⟩
theorem Sd.outer {H H1 : Hp} {d l : Addr} {ns : List Int} {b c : Int} (S : Sd H d l ns b H1) (hdl : d ≠ l) (c0 : 0 ≤ c) (c1 : c < 2147483647) : Sd H d l ns c (upd H1 d (.lst [.ref l, .int c])) := by
  obtain ⟨hd, hl, b0, b1, n0, nl, kp⟩ := S
  exact ⟨upd_same, by rw [upd_ne hdl.symm]; exact hl, c0, c1, n0, nl, fun x o h a b => by rw [upd_ne a]; exact kp x o h a b⟩
/-- shut again: nothing is seen to have changed -/
theorem Sd.shut {H H1 : Hp} {d l : Addr} {ns : List Int} {b : Int} (S : Sd H d l ns b H1) (hdl : d ≠ l) (h1 : H d = some (LstX d (DOut l))) (h2 : H l = some (LstX l DIn)) : Ex H (upd (upd H1 l (LstX l DIn)) d (LstX d (DOut l))) := fun x o h => by
  by_cases e : x = d
  · subst e
    rw [upd_same, ← h, h1]
  · rw [upd_ne e]
    by_cases e2 : x = l
    · subst e2
      rw [upd_same, ← h, h2]
    · rw [upd_ne e2]
      exact S.kp x o h e e2
theorem DIn.of {ns : List Int} (n0 : ∀ n, n ∈ ns → 0 ≤ n) (nl : ns.length ≤ 63) : DIn (ns.map V.int) := ⟨ns, rfl, n0, nl⟩

/-! ### data: numbers -/
theorem lay_ints : ∀ ns : List Int, PyData.canLayAll0 (ns.map PyData.int) = true
  | [] => by simp [PyData.canLayAll0]
  | n :: ns => by simp [PyData.canLayAll0, PyData.canLay0, lay_ints ns]
theorem depth_ints : ∀ ns : List Int, PyData.depthAll (ns.map PyData.int) = 0
  | [] => by simp [PyData.depthAll]
  | n :: ns => by simp [PyData.depthAll, PyData.depth, depth_ints ns]
theorem shaped_ints (ns : List Int) : SeqAt.shaped (.list (ns.map PyData.int)) = true := by
  show (PyData.canLay0 (.list (ns.map PyData.int)) && decide (PyData.depth (.list (ns.map PyData.int)) ≤ 64)) = true
  rw [Bool.and_eq_true]
  refine ⟨by simp only [PyData.canLay0]; exact lay_ints ns, decide_eq_true ?_⟩
  simp only [PyData.depth, depth_ints ns]
  decide
theorem dp_ints {K : PySem.W.Frag} {H : Hp} : ∀ ns : List Int, DpAll K H (ns.map V.int) (ns.map PyData.int)
  | [] => .nil
  | n :: ns => .cons (.int n) (dp_ints ns)
theorem eqv_nil (ns : List Int) : PyData.eqv (.list (ns.map PyData.int)) (.list []) = ns.isEmpty := by
  cases ns <;> simp [PyData.eqv, PyData.eqvAll]
theorem eqvAll_ints : ∀ ns : List Int, PyData.eqvAll (ns.map PyData.int) (ns.map PyData.int) = true
  | [] => by simp [PyData.eqvAll]
  | n :: ns => by simp [PyData.eqvAll, PyData.eqv, eqvAll_ints ns]
theorem eqv_ints (ns : List Int) : PyData.eqv (.list (ns.map PyData.int)) (.list (ns.map PyData.int)) = true := by
  simp only [PyData.eqv]
  exact eqvAll_ints ns
theorem atI0 {x : V} {xs : List V} : atI (x :: xs) 0 = some x := atI_nat (j := 0) rfl
theorem last_int {ns : List Int} (h : ns ≠ []) : ∃ n, n ∈ ns ∧ atI (ns.map V.int) (-1) = some (.int n) ∧ (ns.map V.int)[(ns.map V.int).length - 1]? = some (.int n) ∧ ns = ns.dropLast ++ [n] := by
  have e : ns = ns.dropLast ++ [ns.getLast h] := (List.dropLast_concat_getLast h).symm
  refine ⟨ns.getLast h, List.getLast_mem h, ?_, ?_, e⟩
  · have e2 : ns.map V.int = ns.dropLast.map V.int ++ [V.int (ns.getLast h)] := by
      rw [← List.map_singleton, ← List.map_append, ← e]
    rw [e2]
    exact atI_last _ _
  · rw [List.length_map, List.getElem?_map, ← List.getLast?_eq_getElem?, List.getLast?_eq_getLast h]
    rfl
/-! ### isinstance -/
theorem kit_t {K : PySem.W.Frag} {H : Hp} {x : V} {t : String} {Q : VK} (ty : TyOf K H x (.type t)) (n : String) (b : Bool) (h : kitB t n = some b) (q : Q (.bl b) H) : rIsi K [x, .ty n] H Q :=
  ⟨x, .ty n, .type t, .type n, b, rfl, .ty n, .base ty, kit_ty h, q⟩
/-! ### data: pairs of numbers in tuples -/
def pairD (f : Int × Int) : PyData := .tuple [.int f.1, .int f.2]
theorem lay_pairs : ∀ fs : List (Int × Int), PyData.canLayAll0 (fs.map pairD) = true
  | [] => by simp [PyData.canLayAll0]
  | f :: fs => by simp [PyData.canLayAll0, PyData.canLay0, pairD, lay_pairs fs]
theorem depth_pairs : ∀ fs : List (Int × Int), PyData.depthAll (fs.map pairD) ≤ 1
  | [] => by simp [PyData.depthAll]
  | f :: fs => by
    have h := depth_pairs fs
    simp only [List.map_cons, PyData.depthAll, pairD, PyData.depth]
    omega
theorem shaped_pairs (fs : List (Int × Int)) : SeqAt.shaped (.list (fs.map pairD)) = true := by
  have h := depth_pairs fs
  have h2 : PyData.depth (.list (fs.map pairD)) ≤ 64 := by
    simp only [PyData.depth]
    omega
  show (PyData.canLay0 (.list (fs.map pairD)) && decide (PyData.depth (.list (fs.map pairD)) ≤ 64)) = true
  rw [Bool.and_eq_true]
  exact ⟨by simp only [PyData.canLay0]; exact lay_pairs fs, decide_eq_true h2⟩
theorem eqvAll_pairs : ∀ fs : List (Int × Int), PyData.eqvAll (fs.map pairD) (fs.map pairD) = true
  | [] => by simp [PyData.eqvAll]
  | f :: fs => by simp [PyData.eqvAll, PyData.eqv, pairD, eqvAll_pairs fs]
theorem eqv_pairs (fs : List (Int × Int)) : PyData.eqv (.list (fs.map pairD)) (.list (fs.map pairD)) = true := by
  simp only [PyData.eqv]
  exact eqvAll_pairs fs
theorem dp_pairs {K : PySem.W.Frag} {H : Hp} : ∀ {xs : List V} {fs : List (Int × Int)}, xs.length = fs.length → (∀ (i : Nat) x f, xs[i]? = some x → fs[i]? = some f → ∃ p, x = .ref p ∧ H p = some (.tup [.int f.1, .int f.2])) → DpAll K H xs (fs.map pairD)
  | [], [], _, _ => .nil
  | x :: xs, f :: fs, hl, h => by
    obtain ⟨p, e, hp⟩ := h 0 x f rfl rfl
    subst e
    exact .cons (.tup (SqT.of hp) (.cons (.int _) (.cons (.int _) .nil))) (dp_pairs (Nat.succ.inj hl) fun i x g a b => h (i + 1) x g a b)
/-! ### slices from and to the last one -/
theorem cut_init (xs : List V) : cutV xs none (some (-1)) = xs.dropLast := by
  unfold cutV
  rw [HT.sIx_none]
  have e : HT.sIx xs.length xs.length (some (-1)) = xs.length - 1 := by
    show (if (-1 : Int) < 0 then ((-1 : Int) + (xs.length : Int)).toNat else min (-1 : Int).toNat xs.length) = xs.length - 1
    rw [if_pos (by decide)]
    omega
  rw [e, List.drop_zero, Nat.sub_zero, List.dropLast_eq_take]
theorem cut_last {xs : List V} {x : V} : cutV (xs ++ [x]) (some (-1)) none = [x] := by
  unfold cutV
  rw [HT.sIx_none]
  have e : HT.sIx (xs ++ [x]).length 0 (some (-1)) = xs.length := by
    show (if (-1 : Int) < 0 then ((-1 : Int) + ((xs ++ [x]).length : Int)).toNat else min (-1 : Int).toNat (xs ++ [x]).length) = xs.length
    rw [if_pos (by decide), List.length_append]
    show ((-1 : Int) + ((xs.length + 1 : Nat) : Int)).toNat = xs.length
    omega
  rw [e, List.drop_append_of_le_length (Nat.le_refl _), List.drop_length, List.length_append]
  show List.take (xs.length + 1 - xs.length) ([] ++ [x]) = [x]
  rw [Nat.add_sub_cancel_left]
  rfl
end Pre
set_option maxRecDepth 100000
set_option maxHeartbeats 4000000
/-! Own error classes with an own __init__, over any built-in base (the hand layer has ValueError's): stored fields, raised, made and kept as values, their fields read. -/
namespace Xc
open PySem PySem.Spec PyProof.Rows L2
/-- what must be known of the mro behind a class: its built-in base B and a few others, and that stores are let through -/
structure Tail (bm : List Value) (B : String) : Prop where
  hB : bm.contains (.type B) = true
  hA : bm.contains (.type "AttributeError") = false
  hN : bm.contains (.type "NameError") = false
  hO : bm.contains (.type "object") = true
  pass : ∀ me : Value, refuseLoop me "__setattr__" bm = pure ()
theorem cont_ref {D : Addr} {bm : List Value} {Y : String} : (Value.ref D :: bm).contains (.type Y) = bm.contains (.type Y) := by
  rw [List.contains_cons]
  rfl
theorem tail_ref {bm : List Value} {B : String} {D : Addr} (t : Tail bm B) : Tail (.ref D :: bm) B :=
  ⟨cont_ref.trans t.hB, cont_ref.trans t.hA, cont_ref.trans t.hN, cont_ref.trans t.hO, fun me => by rw [refuseLoop_ref]; exact t.pass me⟩
abbrev tExc : List Value := [.type "Exception", .type "BaseException", .type "object"]
abbrev tKey : List Value := [.type "KeyError", .type "LookupError", .type "Exception", .type "BaseException", .type "object"]
theorem tail_exc : Tail tExc "Exception" := ⟨by decide +kernel, by decide +kernel, by decide +kernel, by decide +kernel, fun me => PySem.F.store_Exception.passes me⟩
theorem tail_key : Tail tKey "LookupError" := ⟨by decide +kernel, by decide +kernel, by decide +kernel, by decide +kernel, fun me => by kernel_rfl⟩
/-- own classes, then these -/
def over : List Value → List Value → Bool
  | .ref _ :: r, l => over r l
  | m, l => m == l
theorem over_ok {l : List Value} {B : String} (t : Tail l B) : ∀ bm : List Value, over bm l = true → Tail bm B
  | .ref _ :: r, e => tail_ref (over_ok t r e)
  | [], e => beq_iff_eq.mp e ▸ t
  | .none :: _, e => beq_iff_eq.mp e ▸ t
  | .ellipsis :: _, e => beq_iff_eq.mp e ▸ t
  | .notImplemented :: _, e => beq_iff_eq.mp e ▸ t
  | .bool _ :: _, e => beq_iff_eq.mp e ▸ t
  | .int _ _ :: _, e => beq_iff_eq.mp e ▸ t
  | .float _ _ :: _, e => beq_iff_eq.mp e ▸ t
  | .str _ _ :: _, e => beq_iff_eq.mp e ▸ t
  | .bytes _ _ :: _, e => beq_iff_eq.mp e ▸ t
  | .type _ :: _, e => beq_iff_eq.mp e ▸ t
  | .builtin _ :: _, e => beq_iff_eq.mp e ▸ t

section
open Builtin Builtin.ObjectAttr PySem.W
variable {prog : Program} {w : World} {A : Around} {E : Value → Shared → Prop} {R : Result → Shared → Prop} {hp : Heap} {g : Array GenState} {d : Drawn} {t : Nat} {os : OsState}
/-- object.__setattr__ on an error, as far as its dict -/
theorem osa_go {K : Frag} {name : Str} {tk : Tok} {v : Value} {x C : Addr} {ox : Obj} {od : Option Obj} {cd : ClassData} {bm : List Value} {B : String} (X : K.In hp) (I : InstAt hp x ox C od) (hcd : clsIn K C = some cd)
    (hm : cd.mro = .ref C :: bm) (T : Tail bm B) (ha : findIn K (.ref C) name = some none)
    (hq : wpAny (model prog w) A.in1 (storeInOwnDict (.ref x) (.ref C) (.str name tk) name v false)
      (fun r s' => match r with | .done f => R (.ok f) s' | .again c' => c'.quiet = true ∧ codeAny (model prog w) A c' R s') (fun e s' => R (.error e) s') ⟨hp, g, d, t, os⟩) :
    codeAny (model prog w) A (.call (.builtin "object.__setattr__") ⟨[.ref x, .str name tk, v], []⟩) R ⟨hp, g, d, t, os⟩ := by
  have S := F.store_object
  have hob : cd.mro.contains (.type "object") = true := by rw [hm]; exact cont_ref.trans T.hO
  have hmt : mroIn K C (.type "object") = some true := by
    unfold mroIn
    rw [hcd, Option.bind_some, hob, hm]
    rfl
  have sub : Looks (model prog w) hp (isInstance (.ref x) (.type "object")) true := I.type.andThen (looks_mroIn X hmt)
  have lm : Looks (model prog w) hp (mroOf (.ref C)) cd.mro := (looks_clsIn X hcd).andThen .now
  have ln : Looks (model prog w) hp (storeTaker? none) none := .now
  have lp : refuseLoop (.ref x) "__setattr__" cd.mro = pure () := by
    rw [hm, refuseLoop_ref]
    exact T.pass _
  refine codeAny_call_builtin S.slot.plain S.entry (@check_slot (model prog w) _ _ ⟨hp, g, d, t, os⟩ "object.__setattr__" "object" "__setattr__" (.ref x) [.str name tk, v] [] _ S.kind S.split sub (S.args (.ref x) (.str name tk) v) ?_)
  rw [osa_eq, refuse_eq]
  refine wpAny_bind (wpAny_bind (I.type.at (wpAny_bind (lm.at ?_))))
  rw [lp]
  refine wpAny_pure (wpAny_bind (I.type.at (wpAny_bind ((looks_findIn X ha).at (wpAny_bind (ln.at ?_))))))
  exact hq
theorem osa_first {K : Frag} {name : Str} {tk : Tok} {v : Value} {x C : Addr} {fv : Array Value} {cd : ClassData} {bm : List Value} {B : String} (X : K.In hp) (hx : hp.get? x = some { cls := .ref C, data := .fields fv })
    (hcd : clsIn K C = some cd) (hm : cd.mro = .ref C :: bm) (hh : cd.hasDict = true) (T : Tail bm B) (ha : findIn K (.ref C) name = some none)
    (hq : ∀ h' tk' dx, (∀ b o, b ≠ x → hp.get? b = some o → h'.get? b = some o) → hp.objs.size ≤ dx → dx ≠ x → h'.get? x = some { cls := .ref C, dict := some dx, data := .fields fv } →
      h'.Ns1 dx (fun y => if y = name then some v else none) → R (.ok (.ret .none)) ⟨h', g, d, tk', os⟩) :
    codeAny (model prog w) A (.call (.builtin "object.__setattr__") ⟨[.ref x, .str name tk, v], []⟩) R ⟨hp, g, d, t, os⟩ := by
  refine osa_go (od := none) X ⟨hx, rfl, rfl, trivial⟩ hcd hm T ha ?_
  have xs : x ≠ hp.objs.size := Nat.ne_of_lt (Heap.lt_size hx)
  have lc : Looks (model prog w) hp (classData C) cd := looks_clsIn X hcd
  obtain ⟨nm, bs, mro, ns, qn, hd, sn, sb, ab, col, del⟩ := cd
  dsimp only at hh
  subst hh
  unfold storeInOwnDict ownDictForStores
  repeat (first | with_reducible refine PySem.HandSPX.store_in_new ?_ ?_ | with_reducible refine wpAny_loadPart_at hx ?_ | with_reducible refine lc.at ?_ | wp_step)
  · exact ⟨_, #[], _, (Heap.get?_update_ne _ _ _ _ xs.symm).trans (Heap.get?_push_at rfl rfl), rfl, fun e he => absurd he (by simp), fun _ => rfl⟩
  · intro h' tk' n' same
    have hx1 : (hp.push { cls := .type "dict", data := .dict #[] }).get? x = some { cls := .ref C, data := .fields fv } := Heap.get?_push_of_some _ hx
    refine hq h' tk' hp.objs.size (fun b o nb ho => ?_) (Nat.le_refl _) xs.symm ((same.2 x xs).trans (Heap.get?_update_self _ hx1 rfl)) n'
    exact (same.2 b (Nat.ne_of_lt (Heap.lt_size ho))).trans ((Heap.get?_update_ne _ _ _ _ nb).trans (Heap.get?_push_of_some _ ho))
theorem osa_more {K : Frag} {name : Str} {tk : Tok} {v : Value} {x C dx : Addr} {fv : Array Value} {cd : ClassData} {m0 : Str → Option Value} {nl : List Str} {bm : List Value} {B : String} (X : K.In hp)
    (hx : hp.get? x = some { cls := .ref C, dict := some dx, data := .fields fv }) (hns : hp.Ns1 dx m0) (hw : Within m0 nl) (hz : nl.length ≤ 1000) (hcd : clsIn K C = some cd) (hm : cd.mro = .ref C :: bm) (hh : cd.hasDict = true) (T : Tail bm B) (ha : findIn K (.ref C) name = some none)
    (hq : ∀ h' tk', (∀ b o, b ≠ dx → hp.get? b = some o → h'.get? b = some o) → h'.Ns1 dx (fun y => if y = name then some v else m0 y) → R (.ok (.ret .none)) ⟨h', g, d, tk', os⟩) :
    codeAny (model prog w) A (.call (.builtin "object.__setattr__") ⟨[.ref x, .str name tk, v], []⟩) R ⟨hp, g, d, t, os⟩ := by
  obtain ⟨oD, _, _, hoD, _, _⟩ := hns.count hw
  refine osa_go (od := some oD) X ⟨hx, rfl, rfl, hoD⟩ hcd hm T ha ?_
  have lc : Looks (model prog w) hp (classData C) cd := looks_clsIn X hcd
  obtain ⟨nm, bs, mro, ns, qn, hd, sn, sb, ab, col, del⟩ := cd
  dsimp only at hh
  subst hh
  unfold storeInOwnDict ownDictForStores
  repeat (first | with_reducible refine PySem.OEX.store_in_old hns hw hz ?_ | with_reducible refine wpAny_loadPart_at hx ?_ | with_reducible refine lc.at ?_ | wp_step)
  intro h' tk' n' same
  exact hq h' tk' (fun b o nb ho => (same.2 b nb).trans ho) n'
end

/-! ### the class called, with values and keywords -/
section
variable {M : Model} {prog : Program} {w : World} {A : Around} {E : Value → Shared → Prop} {R : Result → Shared → Prop} {h : Heap} {g : Array GenState} {d : Drawn} {t : Nat} {os : OsState}
variable {nm q : Str} {C N : Addr} {bs bm bmB : List Value} {hdct : Bool} {sn : List Str} {sub : List Value} {ab : Bool} {col : Option Bool} {dd : Option Addr} {k0 k1 k2 k3 k5 : Option Value} {B newId initId : String} {rest : List Value} {kw : List (Str × Value)}
theorem chk_new (F : ExcBaseFacts B newId initId bmB) (TT : Tail bm B) {Q : Unit → Shared → Prop}
    (hC : h.get? C = some (excClassObj nm q C N bs bm hdct sn sub ab col dd k0 k1 k2 k3 k5 newId)) (hq : Q () ⟨h, g, d, t, os⟩) : wpAny M A (checkBuiltinCall newId ⟨.ref C :: rest, kw⟩) Q E ⟨h, g, d, t, os⟩ := by
  have c1 : (Value.ref C :: bm).contains (.type B) = true := by exact cont_ref.trans TT.hB
  have st := F.noStar
  simp only [checkBuiltinCall, F.newKind, F.newSplit, F.newRow]
  repeat (first | refine wpAny_loadPart_at hC ?_ | (refine wpAny_isSubtype_exc hC ?_; rw [c1]) | refine wpAny_staticBase_exc hC ?_ | refine wpAny_madeBy_exc hC ?_ | simp only [bne_self_eq_false, Bool.false_eq_true, if_false] | wp_step)
  all_goals exact hq
theorem go_new (F : ExcBaseFacts B newId initId bmB) (TT : Tail bm B)
    (hC : h.get? C = some (excClassObj nm q C N bs bm hdct sn sub ab col dd k0 k1 k2 k3 k5 newId)) (hz : rest.length ≤ sizeLine)
    (hq : R (.ok (.ret (.ref (h.objs.size + 1)))) ⟨(h.push { cls := .type "tuple", data := .seq rest.toArray }).push { cls := .ref C, data := .fields #[.ref h.objs.size, .none, .none, .none, .bool false, .none] }, g, d, t, os⟩) :
    codeAny (model prog w) A (.builtin newId ⟨.ref C :: rest, kw⟩) R ⟨h, g, d, t, os⟩ := by
  have en := F.ends
  have c1 : (Value.ref C :: bm).contains (.type B) = true := by exact cont_ref.trans TT.hB
  have c2 : (Value.ref C :: bm).contains (.type "AttributeError") = false := by exact cont_ref.trans TT.hA
  have c3 : (Value.ref C :: bm).contains (.type "NameError") = false := by exact cont_ref.trans TT.hN
  refine codeAny_builtinAt F.entry ?_
  unfold Builtin.«BaseException.__new__»
  refine PySem.wpAt_bind ?_
  show PySem.wpAt _ _ _ (stack >>= _) _ _ _
  refine PySem.wpAt_bind (PySem.wpAt_stack fun p below => PySem.wpAt_of_wpAny ?_)
  wp_walk
  refine PySem.wpAt_of_wpAny ?_
  rw [F.owner]
  repeat (first | with_reducible refine wpAny_madeHere_exc F.canon hC ?_ | with_reducible refine wpAny_loadPart_at hC ?_ | (with_reducible refine wpAny_isSubtype_exc hC ?_; first | rw [c1] | rw [c2] | rw [c3]) | wp_step)
  show R _ _
  rw [Heap.size_push]
  exact hq
theorem ty_call (F : ExcBaseFacts B newId initId bmB) (TT : Tail bm B) {fI : Addr} {Q : Fin → Shared → Prop}
    (hC : h.get? C = some (excClassObj nm q C N bs bm hdct sn sub ab col dd k0 k1 k2 k3 k5 newId)) (hi : PySem.W.Looks (model prog w) h (typeLookup (.ref C) "__init__") (some (.ref fI)))
    (hb : ∀ me, PySem.W.Looks (model prog w) h (bindSpecial (.ref fI) me) (.ref fI, [me])) (hz : rest.length ≤ sizeLine)
    (hq : codeAny (model prog w) A (.call (.ref fI) ⟨.ref (h.objs.size + 1) :: rest, kw⟩)
      (fun r s' => match r with | .ok (.ret v) => v = .none ∧ Q (.done (.ret (.ref (h.objs.size + 1)))) s' | .ok _ => False | .error e => E e s') ⟨(h.push (PySem.W.kdv_tup rest)).push (PySem.HandSPX.excO C h.objs.size), g, d, t, os⟩) :
    wpAny (model prog w) A (Builtin.«type.__call__» ⟨.ref C :: rest, kw⟩) Q E ⟨h, g, d, t, os⟩ := by
  repeat (first | with_reducible refine wpAny_loadPart_at hC ?_ | with_reducible refine wpAny_madeBy_exc hC ?_ | wp_step)
  refine codeAny_call_builtin_code (Code.quiet_builtin _ F.quiet) (chk_new F TT hC ?_)
  refine go_new F TT hC hz ?_
  show wpAny _ _ _ _ _ _
  have kk : ∀ b o, h.get? b = some o → ((h.push (PySem.W.kdv_tup rest)).push (PySem.HandSPX.excO C h.objs.size)).get? b = some o := fun b o z => Heap.get?_push_of_some _ (Heap.get?_push_of_some _ z)
  have hC1 := kk _ _ hC
  have at1 : ((h.push (PySem.W.kdv_tup rest)).push (PySem.HandSPX.excO C h.objs.size)).get? (h.objs.size + 1) = some (PySem.HandSPX.excO C h.objs.size) := by heap_get
  have cc : (Value.ref C :: bm).contains (.ref C) = true := by simp
  unfold isInstance
  repeat (first | with_reducible refine wpAny_loadPart_at at1 ?_ | (with_reducible refine wpAny_isSubtype_exc hC1 ?_; rw [cc]) | wp_step)
  show wpAny _ _ (typeLookup (.ref C) _) _ _ _
  refine (hi.keeps kk).at (wpAny_holding (wpAny_bind (((hb (.ref (h.objs.size + 1))).keeps kk).at ?_)))
  refine wpAny_bind (wpAny_call (codeAny_mono hq fun r s' z => ?_))
  rcases r with e | (v | _ | _ | _) <;> first | exact z | exact z.elim | skip
  obtain ⟨rfl, z⟩ := z
  first
    | exact wpAny_pure (wpAny_pure z)
    | (wp_walk; exact z)
theorem cls_call (F : ExcBaseFacts B newId initId bmB) (TT : Tail bm B) {fI : Addr}
    (hC : h.get? C = some (excClassObj nm q C N bs bm hdct sn sub ab col dd k0 k1 k2 k3 k5 newId)) (hi : PySem.W.Looks (model prog w) h (typeLookup (.ref C) "__init__") (some (.ref fI)))
    (hb : ∀ me, PySem.W.Looks (model prog w) h (bindSpecial (.ref fI) me) (.ref fI, [me])) (hz : rest.length ≤ sizeLine)
    (hq : codeAny (model prog w) (A.under (.builtin "type.__call__" ⟨.ref C :: rest, kw⟩)) (.call (.ref fI) ⟨.ref (h.objs.size + 1) :: rest, kw⟩) (PySem.W.InitBack (h.objs.size + 1) R) ⟨(h.push (PySem.W.kdv_tup rest)).push (PySem.HandSPX.excO C h.objs.size), g, d, t, os⟩) :
    codeAny (model prog w) A (.call (.ref C) ⟨rest, kw⟩) R ⟨h, g, d, t, os⟩ := by
  have f1 := PySem.tc_lookup
  have f2 := PySem.tc_bind (.ref C)
  have hTy : (⟨h, g, d, t, os⟩ : Shared).TypeIs (.ref C) "type" := ⟨_, hC, rfl⟩
  refine codeAny_of_tree ?_
  show wpAny _ _ (callAny (.ref C) _) _ _ _
  repeat (any_goals (first | assumption | with_reducible refine wpAny_loadPart_at hC ?_ | wp_step))
  refine ⟨rfl, codeAny_call_builtin_at (Code.quiet_builtin _ (by decide +kernel)) entry_typeCall (wpAny_check_type_call_sub hC (ty_call F TT hC hi hb hz ?_))⟩
  refine codeAny_mono hq fun r s' z => ?_
  rcases r with e | (v | _ | _ | _) <;> exact z
end

/-- what the written part says of such a class -/
structure ErC (K : PySem.W.Frag) (C : Addr) (B newId : String) : Prop where
  cls : ∃ nm q N bs bm sn sub ab col dd k0 k1 k2 k3 k5, K.lookup C = some (excClassObj nm q C N bs bm true sn sub ab col dd k0 k1 k2 k3 k5 newId) ∧ Tail bm B
  sa : PySem.W.findIn K (.ref C) "__setattr__" = some (some (.builtin "object.__setattr__"))
  exC : PySem.W.subIn K (.ref C) (.type "BaseException") = some true
  tyC : PySem.W.typeIn K (.ref C) = some (.type "type")
  kC : PySem.W.keepIn K (.ref C) = true
theorem ErC.cd {K : PySem.W.Frag} {C : Addr} {B newId : String} (T : ErC K C B newId) : ∃ cd bm, PySem.W.clsIn K C = some cd ∧ cd.mro = .ref C :: bm ∧ cd.hasDict = true ∧ Tail bm B := by
  obtain ⟨nm, q, N, bs, bm, sn, sub, ab, col, dd, k0, k1, k2, k3, k5, hC, t⟩ := T.cls
  refine ⟨{ name := nm, bases := bs, mro := .ref C :: bm, ns := N, qualname := q, hasDict := true, slotNames := sn, subclasses := sub, abstract := ab, collection := col, hasDel := false }, bm, ?_, rfl, rfl, t⟩
  unfold PySem.W.clsIn
  rw [hC]

section
variable {X : Cx} {pins : List (Addr × Obj)} {σ : L2.St} {H : Hp} {s : Shared} {a C dx : Addr} {f : Str} {y : V} {u : Value} {fs : List (Str × V)} {Q : Unit → Shared → Prop} {E : Value → Shared → Prop} {A : Around} {B newId : String}
theorem st_first (T : ErC X.K C B newId) (I : Inv X pins σ H s) (e : H a = some (exo a C none)) (hno : PySem.W.findIn X.K (.ref C) f = some none) (ry : RelV y u)
    (h : ∀ dx s', H dx = none → dx ≠ a → Inv X pins σ (upd (upd H dx (exd dx [(f, y)])) a (exo a C (some dx))) s' → Q () s') : wpAny (model X.prog X.w) A (setAttr (.ref a) f u) Q E s := by
  obtain ⟨cd, bm, hcl, hm, hh, TT⟩ := T.cd
  obtain ⟨t1, ho⟩ := exo_at I.hok e
  obtain ⟨hp, g, d, t, os⟩ := s
  refine PySem.W.set_plain I.kIn (od := none) ⟨ho, rfl, rfl, trivial⟩ T.sa (osa_first I.kIn ho hcl hm hh TT hno fun h' tk' dx k dn dne hx hn => ?_)
  have nD : H dx = none := I.hok.fresh dn
  have nd : ∀ {b : Addr} {o : Obj}, hp.get? b = some o → b ≠ dx := fun q => Nat.ne_of_lt (Nat.lt_of_lt_of_le (Heap.lt_size q) dn)
  have na : ∀ {b : Addr}, H b = none → b ≠ a := fun {b} n z => by rw [z, e] at n; cases n
  have both : ∀ {b : Addr}, b ≠ a → b ≠ dx → upd (upd H dx (exd dx [(f, y)])) a (exo a C (some dx)) b = H b := fun h1 h2 => by rw [upd_ne h1, upd_ne h2]
  refine h dx _ nD dne (I.un (t' := tk') ⟨fun b o q n _ _ => k b o (na n) q, fun b o q n _ _ => ⟨o.slots, k b o (na n) q⟩, fun b o q n _ => (both (na n) (nd q)).trans n, fun b o q _ => ?_,
    fun b xs q => (both (at_ne e q exo_tup) (ne_of_none q nD)).trans q, fun b o v q => (both (at_ne e q exo_frz) (ne_of_none q nD)).trans q, fun b ps q => ⟨#[], by rw [both (at_ne e q exo_tbl) (ne_of_none q nD), q]; simp⟩⟩ fun b o q => ?_)
  · by_cases hb : b = a
    · exact ⟨_, by rw [hb]; exact hx⟩
    · exact ⟨o, k b o hb q⟩
  · by_cases hb : b = a
    · subst hb
      rw [upd_same] at q
      cases q
      exact exo_ok hx
    · by_cases hd : b = dx
      · subst hd
        rw [upd_ne hb, upd_same] at q
        cases q
        exact exd_ok hn (relO_put (fs := []) ry fun _ => True.intro)
      · rw [both hb hd] at q
        refine (I.hok b o q).stay (fun c v hc z => k c v ?_ z) (fun c hc => (both (at_ne e hc exo_own) (ne_of_none hc nD)).trans hc) fun c xs hc => (both (at_ne e hc exo_tup) (ne_of_none hc nD)).trans hc
        rcases hc with hc | hc
        · rw [hc]
          exact hb
        · exact at_ne e hc exo_own
theorem st_more (T : ErC X.K C B newId) (I : Inv X pins σ H s) (e : H a = some (exo a C (some dx))) (ed : H dx = some (exd dx fs)) (hl : fs.length ≤ 900) (hno : PySem.W.findIn X.K (.ref C) f = some none) (ry : RelV y u)
    (h : ∀ s', Inv X pins σ (upd H dx (exd dx ((f, y) :: fs))) s' → Q () s') : wpAny (model X.prog X.w) A (setAttr (.ref a) f u) Q E s := by
  obtain ⟨cd, bm, hcl, hm, hh, TT⟩ := T.cd
  obtain ⟨t1, ho⟩ := exo_at I.hok e
  obtain ⟨mA, hns, rel⟩ := exd_at I.hok ed
  have hw := within_of rel
  obtain ⟨hp, g, d, t, os⟩ := s
  obtain ⟨oD, _, _, hoD, _, _⟩ := hns.count hw
  have le : (fs.map (·.1)).length ≤ 1000 := by rw [List.length_map]; omega
  refine PySem.W.set_plain I.kIn (od := some oD) ⟨ho, rfl, rfl, hoD⟩ T.sa (osa_more I.kIn ho hns hw le hcl hm hh TT hno fun h' tk' k hn => ?_)
  obtain ⟨o, _, _, e', _⟩ := id hn
  exact h _ (I.write (t' := tk') (x := dx) (e := dx) (o := exd dx ((f, y) :: fs)) (by rw [ed]; exact True.intro) (.inl rfl) k ⟨o, e'⟩ (exd_ok hn (relO_put ry rel)))
end

/-- me.f = e in an error's __init__ -/
def tSt (K : PySem.W.Frag) (f : Str) (to te : TE) : TS := fun D σ H => te σ H fun y H1 => to σ H1 fun x H2 => ∃ (a C : Addr) (B newId : String), x = .ref a ∧ ErC K C B newId ∧ PySem.W.findIn K (.ref C) f = some none ∧
  ((H2 a = some (exo a C none) ∧ ∀ dx, H2 dx = none → dx ≠ a → D.nx σ (upd (upd H2 dx (exd dx [(f, y)])) a (exo a C (some dx)))) ∨
    ∃ (dx : Addr) (fs : List (Str × V)), H2 a = some (exo a C (some dx)) ∧ H2 dx = some (exd dx fs) ∧ fs.length ≤ 900 ∧ D.nx σ (upd H2 dx (exd dx ((f, y) :: fs))))
theorem ps_st {X : Cx} {o e : Expr} {to te : TE} {f : Str} {p' pos : Pos} (ho : PE X o to) (he : PE X e te) (hs : swapsWith e (some (.Attribute o f p')) pos.line X.env = pure false := by rfl) : PS X (.Assign [.Attribute o f p'] e pos) (tSt X.K f to te) := by
  refine ⟨fun pins s σ H D I h => plainObj_wpAny_Assign_Attribute (thn (he.run pins s σ H _ I h) fun v s1 r => ?_) hs⟩
  obtain ⟨y, H1, I1, r1, q1⟩ := r
  refine thn (ho.run pins s1 σ H1 _ I1 q1) fun u s2 r => ?_
  obtain ⟨x, H2, I2, r2, a, C, B, newId, ex, T, hno, q⟩ := r
  subst ex
  obtain rfl : u = Value.ref a := r2
  rcases q with ⟨ea, q⟩ | ⟨dx, fs, ea, ed, hl, q⟩
  · exact st_first T I2 ea hno r1 fun dx s' n ne J => ⟨σ, _, J, q dx n ne⟩
  · exact st_more T I2 ea ed hl hno r1 fun s' J => ⟨σ, _, J, q⟩

/-! ### C(e, ..): raised, or kept as a value -/
section
variable {X : Cx} {pins : List (Addr × Obj)} {σ : L2.St} {o e : Expr} {es : List Expr} {te : TE} {ta : TA} {f : Str} {p pos : Pos} {bmB : List Value} {B newId initId : String} {CX : CXT} {x : Str} {C fI : Addr} {k : Nat} {fd : FuncData} {ps : List Str} {sp : Sp} {ds : List Value} {dvs : List V}
/-- the class called, its own __init__ keeping sp -/
theorem er_core {kw : List (Str × Value)} {bv : Addr → List V} (F : ExcBaseFacts B newId initId bmB) (T : ErC X.K C B newId) (iC : PySem.W.findIn X.K (.ref C) "__init__" = some (some (.ref fI))) (tI : PySem.W.typeIn X.K (.ref fI) = some (.type "function")) (F1 : FnOk X.prog X.w X.K X.mg X.base CX k fI fd ps sp)
    (hr : Room (k + 1) X.A) (hx : Passes CX X (fun _ _ _ => False)) {H1 : Hp} {s1 : Shared} {vs : List V} {us : List Value} {Qx : Addr → VK} {P : Value → Shared → Prop} (I1 : Inv X pins σ H1 s1) (r1 : Vals vs us) (hz : vs.length ≤ 1000)
    (hb : ∀ (a : Addr) (s0 : Shared), X.K.In s0.heap → (bv a).length = ps.length → ∃ bd, BindsTo s0 fd ⟨.ref a :: us, kw⟩ (ps.zip bd) ∧ Vals (bv a) bd)
    (q1 : ∀ a, H1 a = none → sp (bv a) (upd H1 a (exo a C none)) (Qx a) (fun _ _ _ => False))
    (fin : ∀ (a : Addr) (s0 s' : Shared), s1.heap.objs.size ≤ a → H1 a = none → Inv X pins σ (upd H1 a (exo a C none)) s0 → (∀ b o, s1.heap.get? b = some o → s0.heap.get? b = some o) → CE X.stack X.prog X.w (upd H1 a (exo a C none)) s0 (Qx a) .none s' → s0.os = s1.os → P (.ref a) s')
    (non : ∀ a v H2, Qx a v H2 → v = .non) : wpAny (model X.prog X.w) X.A (call (.ref C) us kw) P X.xe s1 := by
  obtain ⟨nm, q, N, bs, bm, sn, sub, ab, col, dd, k0, k1, k2, k3, k5, hC, TT⟩ := T.cls
  obtain ⟨hp, g, dr, tk, os⟩ := s1
  have hsz : hp.objs.size ≤ hp.objs.size + 1 := Nat.le_succ _
  have hn : H1 (hp.objs.size + 1) = none := I1.hok.fresh hsz
  have hq := q1 (hp.objs.size + 1) hn
  have kk : ∀ b o, hp.get? b = some o → ((hp.push (PySem.W.kdv_tup us)).push (PySem.HandSPX.excO C hp.objs.size)).get? b = some o := fun b o z => Heap.get?_push_of_some _ (Heap.get?_push_of_some _ z)
  have at1 : ((hp.push (PySem.W.kdv_tup us)).push (PySem.HandSPX.excO C hp.objs.size)).get? (hp.objs.size + 1) = some (PySem.HandSPX.excO C hp.objs.size) := by heap_get
  have I2 := I1.laid (t' := tk) (a := hp.objs.size + 1) (o := exo (hp.objs.size + 1) C none) (h' := (hp.push (PySem.W.kdv_tup us)).push (PySem.HandSPX.excO C hp.objs.size)) kk hsz (exo_ok at1)
  obtain ⟨bd, bt, r2⟩ := hb (hp.objs.size + 1) _ I2.kIn (F1.len _ _ _ _ hq)
  have hus : us.length ≤ sizeLine := by
    rw [← Paired.length r1, sizeLine_eq]
    omega
  have body := F1.run _ X.stack _ _ ⟨Value.ref (hp.objs.size + 1) :: us, kw⟩ bd _ _ (fun _ _ _ => False) (hr.make C us kw) (I2.env0.make C us kw) bt r2 hq
  refine wpAny_call (cls_call F TT (I1.kIn _ _ hC) (PySem.W.looks_findIn I1.kIn iC) (fun me => PySem.W.bind_fn I1.kIn me tI) hus (codeAny_mono body fun r s' z => ?_))
  cases r with
  | error er => exact hx pins σ _ _ er s' I2 z
  | ok fl =>
    cases fl with
    | ret u =>
      have e : u = .none := by
        obtain ⟨v, H2, _, _, _, _, rv, y⟩ := z
        have ev := non _ _ _ y
        subst ev
        exact rv
      subst e
      exact ⟨rfl, fin _ _ s' hsz hn I2 kk z rfl⟩
    | next => exact False.elim z
    | brk => exact False.elim z
    | cont => exact False.elim z
theorem bd_pos {us : List Value} {vs : List V} (hb : Binds X.K fd ps ds) (hd : Vals dvs ds) (r1 : Vals vs us) (a : Addr) (s0 : Shared) (hk : X.K.In s0.heap) (hl : (V.ref a :: (vs ++ dvs)).length = ps.length) :
    ∃ bd, BindsTo s0 fd ⟨.ref a :: us, []⟩ (ps.zip bd) ∧ Vals (V.ref a :: (vs ++ dvs)) bd := by
  have r2 : Vals (V.ref a :: (vs ++ dvs)) (Value.ref a :: (us ++ ds)) := .cons rfl (r1.append hd)
  exact ⟨_, hb s0 (.ref a :: us) hk (r2.length.symm.trans hl), r2⟩
/-- raised -/
theorem pmk_er (F : ExcBaseFacts B newId initId bmB) (T : ErC X.K C B newId) (iC : PySem.W.findIn X.K (.ref C) "__init__" = some (some (.ref fI))) (tI : PySem.W.typeIn X.K (.ref fI) = some (.type "function")) (F1 : FnOk X.prog X.w X.K X.mg X.base CX k fI fd ps sp)
    (hr : Room (k + 1) X.A) (hb : Binds X.K fd ps ds) (hd : Vals dvs ds) (hx : Passes CX X (fun _ _ _ => False)) (hg : Gl X x) (hm : X.mg x = some (.ref C)) (ha : PA X (e :: es) ta)
    (hdb : (x == ("__debug__" : Str)) = false := by decide) (he : starEach (e :: es) X.env = (false, eval e X.env) :: starEach es X.env := by rfl) (hpl : (backTo pos (starEach es X.env)).any (·.1) = false := by rfl) :
    PMk X (.Call (.Name x p) (e :: es) [] pos) (tMkO C sp dvs ta) := by
  intro pins s σ H Q I h
  refine wpAny_Call_Name_kw (ld_glob I hg hm (PySem.W.callWith_K (h₀ := X.base) I.ok.mod.kin T.kC (thn (ha.run pos pins s σ H _ I h) fun us s1 z => ?_) he hpl) hdb)
  obtain ⟨vs, H1, I1, r1, hz, q1⟩ := z
  refine ⟨I1.kIn, er_core F T iC tI F1 hr hx I1 r1 hz (bd_pos hb hd r1) q1 (fun a s0 s' ha hn I2 kk z _ => ?_) fun _ _ _ y => y.1⟩
  obtain ⟨hp, g, dr, tk, os⟩ := s1
  obtain ⟨hp0, g0, dr0, tk0, os0⟩ := s0
  obtain ⟨v, H2, os2, bare2, un2, hok2, _, _, d, fs, ea, ed, hd1, q2⟩ := z
  obtain ⟨h2, g2, d2, t2, os'⟩ := s'
  exact mk_end (raises_own T.exC T.tyC) I1 ha kk un2 hok2 (by first | exact os2 | exact os2.trans ‹_›) bare2 ea ed hd1 q2
/-- kept as a value -/
def tEr (C : Addr) (sp : Sp) (dvs : List V) (ta : TA) : TE := fun σ H Q => ta σ H fun vs H1 => vs.length ≤ 1000 ∧ ∀ a, H1 a = none → sp (.ref a :: (vs ++ dvs)) (upd H1 a (exo a C none)) (fun v H2 => v = .non ∧ Q (.ref a) H2) (fun _ _ _ => False)
theorem pe_er (F : ExcBaseFacts B newId initId bmB) (T : ErC X.K C B newId) (iC : PySem.W.findIn X.K (.ref C) "__init__" = some (some (.ref fI))) (tI : PySem.W.typeIn X.K (.ref fI) = some (.type "function")) (F1 : FnOk X.prog X.w X.K X.mg X.base CX k fI fd ps sp)
    (hr : Room (k + 1) X.A) (hb : Binds X.K fd ps ds) (hd : Vals dvs ds) (hx : Passes CX X (fun _ _ _ => False)) (hg : Gl X x) (hm : X.mg x = some (.ref C)) (ha : PA X (e :: es) ta)
    (hdb : (x == ("__debug__" : Str)) = false := by decide) (he : starEach (e :: es) X.env = (false, eval e X.env) :: starEach es X.env := by rfl) (hpl : (backTo pos (starEach es X.env)).any (·.1) = false := by rfl) :
    PE X (.Call (.Name x p) (e :: es) [] pos) (tEr C sp dvs ta) := by
  refine ⟨fun pins s σ H Q I h => ?_⟩
  refine wpAny_Call_Name_kw (ld_glob I hg hm (PySem.W.callWith_K (h₀ := X.base) I.ok.mod.kin T.kC (thn (ha.run pos pins s σ H _ I h) fun us s1 z => ?_) he hpl) hdb)
  obtain ⟨vs, H1, I1, r1, hz, q1⟩ := z
  refine ⟨I1.kIn, er_core F T iC tI F1 hr hx I1 r1 hz (bd_pos hb hd r1) q1 (fun a s0 s' ha hn I2 kk z _ => ?_) fun _ _ _ y => y.1⟩
  obtain ⟨v, H2, J, _, _, q2⟩ := I2.after z
  exact ⟨.ref a, H2, J, rfl, q2⟩
/-- C(k = v, ..) kept as a value -/
def tErK (C : Addr) (m : Nat) (sp : Sp) (gV : List V → List V → List V) (tk : TA) : TE := fun σ H Q => tk σ H fun zs H1 => zs.length = m ∧ ∀ a, H1 a = none → sp (gV [.ref a] zs) (upd H1 a (exo a C none)) (fun v H2 => v = .non ∧ Q (.ref a) H2) (fun _ _ _ => False)
theorem pe_erK {ks : List Str} {kws : List Keyword} {tk : TA} {g : List Value → List Value → List Value} {gV : List V → List V → List V} (F : ExcBaseFacts B newId initId bmB) (T : ErC X.K C B newId) (iC : PySem.W.findIn X.K (.ref C) "__init__" = some (some (.ref fI)))
    (tI : PySem.W.typeIn X.K (.ref fI) = some (.type "function")) (F1 : FnOk X.prog X.w X.K X.mg X.base CX k fI fd ps sp) (hr : Room (k + 1) X.A) (hb : KBn X.K fd ps 1 ks g gV) (hx : Passes CX X (fun _ _ _ => False)) (hg : Gl X x) (hm : X.mg x = some (.ref C)) (hkw : PK X kws tk)
    (hall : (backToKw pos (keywordEach kws X.env)).all (·.1.isSome) = true := by rfl) (hks : (backToKw pos (keywordEach kws X.env)).filterMap (·.1) = ks := by rfl) (hdb : (x == ("__debug__" : Str)) = false := by decide)
    (hpl : ((backTo pos (starEach [] X.env)).any (·.1) || (backToKw pos (keywordEach kws X.env)).any (·.1.isNone)) = false := by rfl) :
    PE X (.Call (.Name x p) [] kws pos) (tErK C ks.length sp gV tk) := by
  refine ⟨fun pins s σ H Q I h => ?_⟩
  refine wpAny_Call_Name_kw (ld_glob I hg hm (PySem.W.callWith_KW0 (h₀ := X.base) I.ok.mod.kin T.kC hall ?_ hpl) hdb)
  refine thn (hkw.run pos pins s σ H _ I h) fun ws s1 z => ?_
  obtain ⟨zs, H1, I1, rz, l2, q1⟩ := z
  refine ⟨I1.kIn, ?_⟩
  rw [hks]
  have lw : ws.length = ks.length := rz.length.symm.trans l2
  show wpAny _ _ (call (Value.ref C) [] (ks.zip ws)) _ _ _
  refine er_core (vs := []) (bv := fun a => gV [.ref a] zs) F T iC tI F1 hr hx I1 .nil (by decide) (fun a s0 hk _ => ⟨_, hb.to s0 [.ref a] ws hk rfl lw, hb.rel (.cons rfl .nil) rz⟩) q1 (fun a s0 s' ha hn I2 kk z _ => ?_) fun _ _ _ y => y.1
  obtain ⟨v, H2, J, _, _, q2⟩ := I2.after z
  exact ⟨.ref a, H2, J, rfl, q2⟩
/-- a field of an error kept as a value -/
def tErF (K : PySem.W.Frag) (f : Str) (te : TE) : TE := fun σ H Q => te σ H fun x H1 => ∃ (a C d : Addr) (fs : List (Str × V)) (v : V), x = .ref a ∧ XfC K C ∧ PySem.W.findIn K (.ref C) f = some none ∧ H1 a = some (exo a C (some d)) ∧ H1 d = some (exd d fs) ∧ fs.lookup f = some v ∧ Q v H1
theorem pe_erf (he : PE X e te) (hb : attributeBase e f X.env (eval e X.env) = eval e X.env := by rfl) : PE X (.Attribute e f pos) (tErF X.K f te) := by
  refine ⟨fun pins s σ H Q I h => attr_of hb (thn (he.run pins s σ H _ I h) fun u s1 z => ?_)⟩
  obtain ⟨x, H1, I1, rx, a, C, d, fs, v, ex, T, hno, ea, ed, l, q⟩ := z
  subst ex
  obtain rfl : u = Value.ref a := rx
  obtain ⟨t1, ho⟩ := exo_at I1.hok ea
  obtain ⟨mA, hns, hr⟩ := exd_at I1.hok ed
  obtain ⟨od, hod, hl⟩ := lookIn_ns hns
  obtain ⟨u, hu, ru⟩ := RelO.some_of (v := v) (o := mA f) (by rw [← l]; exact hr f)
  exact HandSPX.exc_get I1.kIn (od := some od) ⟨ho, rfl, rfl, hod⟩ T.ga T.gg T.exC (PySem.W.findObj_own T.hdC hno rfl (by rw [hl, hu])) (handed_of ru) ⟨v, H1, I1.tok _, ru, q⟩
/-- isinstance of an error kept as a value -/
structure EisC (K : PySem.W.Frag) (C : Addr) : Prop where
  cl : (PySem.W.clsIn K C).isSome = true
  hg : PySem.W.findIn K (.ref C) "__getattribute__" = some (some (.builtin "BaseException.__getattribute__"))
  hk : PySem.W.findIn K (.ref C) "__getattr__" = some none
  hs : PySem.W.subIn K (.ref C) (.type "BaseException") = some true
  ha : PySem.W.findIn K (.ref C) "__class__" = some (some (.builtin "object.__class__"))
  hn : PySem.W.specialIn K (.builtin "object.__class__") "__get__" = some (some (.builtin "getset_descriptor.__get__"))
  ht : PySem.W.takesIn K (.builtin "object.__class__") = some true
  hm : PySem.W.mroIn K C (.type "object") = some true
def rIsEr (K : PySem.W.Frag) : List V → Hp → VK → Prop := fun xs H Q => ∃ (a C d : Addr) (fs : List (Str × V)) (c : V) (u : Value) (b : Bool), xs = [.ref a, c] ∧ ClsV c u ∧ EisC K C ∧ H a = some (exo a C (some d)) ∧ H d = some (exd d fs) ∧ PySem.W.kitOne K (.ref C) u = some b ∧ Q (.bl b) H
theorem call_isEr : CallR X (.builtin "isinstance") (rIsEr X.K) := by
  intro pins s σ H xs us Q I r h
  obtain ⟨a, C, d, fs, c, u, b, rfl, k, T, ea, ed, eb, q⟩ := h
  obtain ⟨u1, u2, rfl, r1, r2⟩ := vals2 r
  have e2 := k.eq r2
  subst e2
  obtain rfl : u1 = Value.ref a := r1
  obtain ⟨t1, ho⟩ := exo_at I.hok ea
  obtain ⟨mA, hns, hr⟩ := exd_at I.hok ed
  obtain ⟨od, hod, hl⟩ := lookIn_ns hns
  exact PySem.W.kia_one (PySem.W.kitx_exc (od := some od) T.cl T.hg T.hk T.hs T.ha T.hn T.ht T.hm) I.kIn ⟨ho, rfl, rfl, hod⟩ eb (fun z => nomatch z) fun tk => ⟨.bl b, H, I.tok tk, rfl, q⟩
end
end Xc
set_option maxRecDepth 100000
set_option maxHeartbeats 4000000
/-! Errors kept as values: made without an __init__ of their own, raised so; isinstance, == and != of them. -/
namespace Xc
open PySem PySem.Spec PyProof.Rows L2
/-- an error of the class C at a, with a dict or without -/
def ErV (H : Hp) (a C : Addr) : Prop := (∃ d fs, H a = some (exo a C (some d)) ∧ H d = some (exd d fs)) ∨ H a = some (ExO (.ref C) a)
section
variable {X : Cx} {pins : List (Addr × Obj)} {σ : L2.St} {H : Hp} {s : Shared} {a b C D : Addr}
theorem erV_inst (I : Inv X pins σ H s) (h : ErV H a C) : ∃ ox od, PySem.W.InstAt s.heap a ox C od := by
  rcases h with ⟨d, fs, ea, ed⟩ | ea
  · obtain ⟨t1, ho⟩ := exo_at I.hok ea
    obtain ⟨mA, hns, hr⟩ := exd_at I.hok ed
    obtain ⟨od, hod, hl⟩ := lookIn_ns hns
    exact ⟨_, some od, ho, rfl, rfl, hod⟩
  · obtain ⟨⟨oe, vs, ho, hz, hd, _⟩, _, _⟩ := I.hok a _ ea
    obtain ⟨oc, od, dt, sl⟩ := oe
    obtain ⟨z1, z2⟩ := hz
    dsimp only at z1 z2 hd
    subst z1 z2 hd
    exact ⟨_, none, ho, rfl, rfl, trivial⟩
theorem ErV.ex {H' : Hp} (h : ErV H a C) (e : Evl.Ex H H') : ErV H' a C := by
  rcases h with ⟨d, fs, ea, ed⟩ | ea
  · exact .inl ⟨d, fs, e _ _ ea, e _ _ ed⟩
  · exact .inr (e _ _ ea)
end

/-! ### C() and raise C(), C without an __init__ of its own -/
section
variable {X : Cx} {C : Addr} {bmB : List Value} {B newId initId : String} {x : Str} {p pos : Pos}
theorem pe_exc0 (F : ExcBaseFacts B newId initId bmB) (q : PySem.W.excIn X.K C bmB newId = true) (gC : X.mg x = some (.ref C)) (kC : PySem.W.keepIn X.K (.ref C) = true) (hg : Gl X x) (hdb : (x == ("__debug__" : Str)) = false := by decide) :
    PE X (.Call (.Name x p) [] [] pos) (fun _ H Q => ∀ a, H a = none → Q (.ref a) (upd H a (ExO (.ref C) a))) := by
  refine ⟨fun pins s σ H Q I h => ?_⟩
  refine wpAny_Call_Name_kw (ld_glob I hg gC (PySem.W.callWith_K0 I.kIn kC ?_) hdb)
  obtain ⟨bm, N, nm, qn, bs, hdct, sn, sub, ab, col, dd, k0, k1, k2, k3, k5, mN, hC, hN, hni, T⟩ := exc_obj I.kIn q
  refine wpAny_call_exc_subT F T hC hN hni (fun h' a hm => ?_) (by decide)
  have hn : H a = none := I.hok.gone hm.new
  obtain ⟨t, ht, _, _⟩ := hm.there
  exact ⟨.ref a, upd H a (ExO (.ref C) a), I.laidN hm.keeps hm.new hn (exO_ok ht ⟨rfl, rfl⟩ rfl rfl rfl (show 4 < 6 by decide)), rfl, h a hn⟩
theorem pmk_exc0 (F : ExcBaseFacts B newId initId bmB) (q : PySem.W.excIn X.K C bmB newId = true) (gC : X.mg x = some (.ref C)) (kC : PySem.W.keepIn X.K (.ref C) = true) (r : Raises X (.ref C)) (hg : Gl X x) (hdb : (x == ("__debug__" : Str)) = false := by decide) :
    PMk X (.Call (.Name x p) [] [] pos) (fun _ H Q => Q (.ref C) none H) := by
  intro pins s σ H Q I h
  refine wpAny_Call_Name_kw (ld_glob I hg gC (PySem.W.callWith_K0 I.kIn kC ?_) hdb)
  obtain ⟨bm, N, nm, qn, bs, hdct, sn, sub, ab, col, dd, k0, k1, k2, k3, k5, mN, hC, hN, hni, T⟩ := exc_obj I.kIn q
  exact wpAny_call_exc_subT F T hC hN hni (fun h' e hm => mk_of I hm r h (I.hok.gone hm.new)) (by decide)
end

/-! ### isinstance -/
def rIsEv (K : PySem.W.Frag) : List V → Hp → VK → Prop := fun xs H Q => ∃ (a C : Addr) (c : V) (u : Value) (b : Bool), xs = [.ref a, c] ∧ ClsV c u ∧ EisC K C ∧ ErV H a C ∧ PySem.W.kitOne K (.ref C) u = some b ∧ Q (.bl b) H
theorem call_isEv {X : Cx} : CallR X (.builtin "isinstance") (rIsEv X.K) := by
  intro pins s σ H xs us Q I r h
  obtain ⟨a, C, c, u, b, rfl, k, T, ea, eb, q⟩ := h
  obtain ⟨u1, u2, rfl, r1, r2⟩ := vals2 r
  have e2 := k.eq r2
  subst e2
  obtain rfl : u1 = Value.ref a := r1
  obtain ⟨ox, od, J⟩ := erV_inst I ea
  exact PySem.W.kia_one (PySem.W.kitx_exc (od := od) T.cl T.hg T.hk T.hs T.ha T.hn T.ht T.hm) I.kIn J eb (fun z => nomatch z) fun tk => ⟨.bl b, H, I.tok tk, rfl, q⟩

/-! ### == and != of two errors: they are not the same -/
structure EqC (K : PySem.W.Frag) (C : Addr) : Prop where
  mo : PySem.W.mroIn K C (.type "object") = some true
  eq : PySem.W.findIn K (.ref C) "__eq__" = some (some (.builtin "object.__eq__"))
  ne : PySem.W.findIn K (.ref C) "__ne__" = some (some (.builtin "object.__ne__"))
section
variable {M : Model} {prog : Program} {w : World} {A : Around} {E : Value → Shared → Prop} {s : Shared} {K : PySem.W.Frag} {x y C D : Addr} {ox oy : Obj} {od oe : Option Obj}
theorem inst_nt (I : PySem.W.InstAt s.heap x ox C od) : ox.cls ≠ .type "tuple" := by
  rw [I.cls]
  nofun
theorem eq_special {Q : Option Value → Shared → Prop} (T : EqC K C) (X : K.In s.heap) (I : PySem.W.InstAt s.heap x ox C od) (hy : s.heap.get? y = some oy) (hxy : x ≠ y) (hq : Q (some .notImplemented) s) :
    wpAny (model prog w) A (callSpecialIfBound? (.ref x) "__eq__" [.ref y]) Q E s :=
  HN.ifBound_objEq X I T.eq (wpAny_call (codeAny_call_builtin F.cmp_object.eq.plain F.cmpEntry_eq (PySem.W.check_slot F.cmpKind_eq F.cmpSplit_eq (I.type.andThen (PySem.W.looks_mroIn X T.mo)) (F.cmpArgs_eq _ _) (objEq_entry_other hxy I.at_ hy (inst_nt I) hq))))
theorem ne_bound {args : List Value} {Q : Option Value → Shared → Prop} (X : K.In s.heap) (I : PySem.W.InstAt s.heap x ox C od) (T : EqC K C) (h : wpAny M A (call (.builtin "object.__ne__") (.ref x :: args)) (fun v => Q (some v)) E s) :
    wpAny M A (callSpecialIfBound? (.ref x) "__ne__" args) Q E s := by
  simp only [callSpecialIfBound?, bindSpecialIfBound?]
  refine wpAny_holding (wpAny_bind (wpAny_bind (wpAny_bind (I.type.here ((PySem.W.looks_findIn X T.ne).here ?_)))))
  refine wpAny_bind (wpAny_askSetting (wpAny_ite ?_))
  have fin : wpAny M A (call (.builtin "object.__ne__") ([.ref x] ++ args) >>= fun v => pure (some v)) Q E s := wpAny_bind (wpAny_mono h (fun v s' z => wpAny_pure z) fun _ _ z => z)
  split
  · exact wpAny_bind (wpAny_of_eq (F.cmp_object.ne.bind _) (wpAny_pure (by exact fin)))
  · exact wpAny_tryCatch (wpAny_bind (wpAny_of_eq (F.cmp_object.ne.bind _) (wpAny_pure (by exact fin))))
theorem ne_entry {Q : Fin → Shared → Prop} (T : EqC K C) (X : K.In s.heap) (I : PySem.W.InstAt s.heap x ox C od) (hy : s.heap.get? y = some oy) (hxy : x ≠ y) (hu : A.units < cLine) (hq : Q (.done (.ret .notImplemented)) s) :
    wpAny (model prog w) A (Builtin.«object.__ne__» ⟨[.ref x, .ref y], []⟩) Q E s := by
  unfold Builtin.«object.__ne__»
  repeat (first | with_reducible refine wpAny_cRoomFor hu ?_ | with_reducible refine eq_special T X I hy hxy ?_ | wp_step)
  exact hq
theorem ne_special {Q : Option Value → Shared → Prop} (T : EqC K C) (X : K.In s.heap) (I : PySem.W.InstAt s.heap x ox C od) (hy : s.heap.get? y = some oy) (hxy : x ≠ y) (hu : A.units + 1 < cLine) (hq : Q (some .notImplemented) s) :
    wpAny (model prog w) A (callSpecialIfBound? (.ref x) "__ne__" [.ref y]) Q E s :=
  ne_bound X I T (wpAny_call (codeAny_call_builtin F.cmp_object.ne.plain F.cmpEntry_ne (PySem.W.check_slot F.cmpKind_ne F.cmpSplit_ne (I.type.andThen (PySem.W.looks_mroIn X T.mo)) (F.cmpArgs_ne _ _) (ne_entry T X I hy hxy (by exact hu) hq))))
/-- the two ways of asking, and what both say -/
theorem rich_other {op : CmpOp} {f : Str} {Q : Value → Shared → Prop} (e : cmpInfo op = (if op = .Eq then "==" else "!=", f, f)) (hop : op = .Eq ∨ op = .NotEq) (hu : A.units < cLine) (X : K.In s.heap) (I : PySem.W.InstAt s.heap x ox C od) (J : PySem.W.InstAt s.heap y oy D oe) (hxy : x ≠ y)
    (hs : PySem.W.subIn K (.ref D) (.ref C) = some false)
    (one : ∀ {Q : Option Value → Shared → Prop}, Q none s → wpAny (model prog w) A (tryCompare (.ref x) f (.ref y)) Q E s) (two : ∀ {Q : Option Value → Shared → Prop}, Q none s → wpAny (model prog w) A (tryCompare (.ref y) f (.ref x)) Q E s)
    (hq : Q (.bool (decide (op = .NotEq))) s) : wpAny (model prog w) A (richCompare op (.ref x) (.ref y)) Q E s := by
  have same : ∀ {Q : Bool → Shared → Prop}, Q false s → wpAny (model prog w) A (isSame (.ref x) (.ref y)) Q E s := fun {Q} q => wpAny_isSame_ref_other hxy I.at_ J.at_ (inst_nt I) q
  rcases hop with rfl | rfl
  all_goals
    simp only [richCompare, e, oneThing_ref]
    refine wpAny_holding (wpAny_bind (wpAny_cRoomFor hu ?_))
    refine wpAny_bind (I.type.here (wpAny_bind (J.type.here ?_)))
    by_cases hCD : C = D
    · subst hCD
      rw [if_neg (by simp)]
      refine wpAny_bind (wpAny_pure ?_)
      simp only [Bool.false_eq_true, if_false, Bool.not_false, if_true]
      exact wpAny_bind (one (wpAny_bind (two (wpAny_bind (wpAny_rule (wpAny_bind (same (wpAny_pure hq))))))))
    · rw [if_pos (by simp [hCD])]
      refine wpAny_bind ((PySem.W.looks_subIn X hs).here ?_)
      simp only [Bool.false_eq_true, if_false, Bool.not_false, if_true]
      exact wpAny_bind (one (wpAny_bind (two (wpAny_bind (wpAny_rule (wpAny_bind (same (wpAny_pure hq))))))))
end
def rEr (K : PySem.W.Frag) (c : Bool) : R2 := fun x y H Q => ∃ a b C D, x = .ref a ∧ y = .ref b ∧ a ≠ b ∧ ErV H a C ∧ ErV H b D ∧ EqC K C ∧ EqC K D ∧ PySem.W.subIn K (.ref D) (.ref C) = some false ∧ Q (.bl c) H
theorem op_eqEr {X : Cx} (hu : X.A.units < cLine) : OpR X (compareOp .Eq) (rEr X.K false) := by
  intro pins s σ H x y v u Q I rx ry h
  obtain ⟨a, b, C, D, rfl, rfl, hab, ha, hb, TC, TD, hs, q⟩ := h
  obtain rfl : v = Value.ref a := rx
  obtain rfl : u = Value.ref b := ry
  obtain ⟨ox, od, J⟩ := erV_inst I ha
  obtain ⟨oy, oe, J2⟩ := erV_inst I hb
  refine rich_other (op := .Eq) (f := "__eq__") rfl (.inl rfl) hu I.kIn J J2 hab hs (fun {Q} q => ?_) (fun {Q} q => ?_) ⟨.bl false, H, I, rfl, q⟩
  · unfold tryCompare
    exact wpAny_bind (eq_special TC I.kIn J J2.at_ hab (wpAny_pure q))
  · unfold tryCompare
    exact wpAny_bind (eq_special TD I.kIn J2 J.at_ (Ne.symm hab) (wpAny_pure q))
theorem op_neEr {X : Cx} (hu : X.A.units + 1 < cLine) : OpR X (compareOp .NotEq) (rEr X.K true) := by
  intro pins s σ H x y v u Q I rx ry h
  obtain ⟨a, b, C, D, rfl, rfl, hab, ha, hb, TC, TD, hs, q⟩ := h
  obtain rfl : v = Value.ref a := rx
  obtain rfl : u = Value.ref b := ry
  obtain ⟨ox, od, J⟩ := erV_inst I ha
  obtain ⟨oy, oe, J2⟩ := erV_inst I hb
  refine rich_other (op := .NotEq) (f := "__ne__") rfl (.inr rfl) (Nat.lt_of_succ_lt hu) I.kIn J J2 hab hs (fun {Q} q => ?_) (fun {Q} q => ?_) ⟨.bl true, H, I, rfl, q⟩
  · unfold tryCompare
    exact wpAny_bind (ne_special TC I.kIn J J2.at_ hab hu (wpAny_pure q))
  · unfold tryCompare
    exact wpAny_bind (ne_special TD I.kIn J2 J.at_ (Ne.symm hab) hu (wpAny_pure q))
end Xc
set_option maxRecDepth 100000
set_option maxHeartbeats 4000000
/-! What is asked of an error class, as one Bool over the written part; its __init__ that stores one field or two; the readings made short. -/
namespace Xc
open PySem PySem.Spec PyProof.Rows L2
open PySem.W in
def erB (K : Frag) (C : Addr) (newId : String) (tl : List Value) (fs : List Str) : Bool :=
  (match K.lookup C with
    | some ⟨.type "type", _, .cls cd, sl⟩ => (match cd.mro, sl.toList with
      | .ref C' :: bm, [_, _, _, _, some (.builtin n), _] => C' == C && n == newId && !cd.hasDel && cd.hasDict && over bm tl
      | _, _ => false)
    | _ => false) &&
  (findIn K (.ref C) "__setattr__" == some (some (.builtin "object.__setattr__")) && (subIn K (.ref C) (.type "BaseException") == some true && (typeIn K (.ref C) == some (.type "type") && (keepIn K (.ref C) &&
  (findIn K (.ref C) "__getattribute__" == some (some (.builtin "BaseException.__getattribute__")) && (findIn K (.ref C) "__getattr__" == some none && (hasDictIn K C && (findIn K (.ref C) "__class__" == some (some (.builtin "object.__class__")) &&
  (specialIn K (.builtin "object.__class__") "__get__" == some (some (.builtin "getset_descriptor.__get__")) && (takesIn K (.builtin "object.__class__") == some true && (mroIn K C (.type "object") == some true &&
  (findIn K (.ref C) "__eq__" == some (some (.builtin "object.__eq__")) && (findIn K (.ref C) "__ne__" == some (some (.builtin "object.__ne__")) && fs.all fun f => findIn K (.ref C) f == some none)))))))))))))
structure ErX (K : PySem.W.Frag) (C : Addr) (B newId : String) (fs : List Str) : Prop where
  c : ErC K C B newId
  x : XfC K C
  i : EisC K C
  e : EqC K C
  no : ∀ f ∈ fs, PySem.W.findIn K (.ref C) f = some none
theorem erB_cls {K : PySem.W.Frag} {C : Addr} {newId B : String} {tl : List Value} (t : Tail tl B) (h : (match K.lookup C with
    | some ⟨.type "type", _, .cls cd, sl⟩ => (match cd.mro, sl.toList with
      | .ref C' :: bm, [_, _, _, _, some (.builtin n), _] => C' == C && n == newId && !cd.hasDel && cd.hasDict && over bm tl
      | _, _ => false)
    | _ => false) = true) :
    ∃ nm q N bs bm sn sub ab col dd k0 k1 k2 k3 k5, K.lookup C = some (excClassObj nm q C N bs bm true sn sub ab col dd k0 k1 k2 k3 k5 newId) ∧ Tail bm B := by
  split at h
  · rename_i dd cd sl ho
    split at h
    · rename_i C' bm k0 k1 k2 k3 n k5 hm hs
      simp only [Bool.and_eq_true, beq_iff_eq, Bool.not_eq_true'] at h
      obtain ⟨⟨⟨⟨rfl, rfl⟩, hdel⟩, hdct⟩, ho2⟩ := h
      obtain ⟨nm, bs, mro, ns, qn, hd, sn, sub, ab, col, del⟩ := cd
      dsimp only at hm hdel hdct
      subst hm hdel hdct
      have hsl : sl = #[k0, k1, k2, k3, some (.builtin n), k5] := by
        obtain ⟨l⟩ := sl
        simp only at hs
        rw [hs]
      subst hsl
      exact ⟨nm, qn, ns, bs, bm, sn, sub, ab, col, dd, k0, k1, k2, k3, k5, ho, over_ok t bm ho2⟩
    · cases h
  · cases h
theorem erB_ok {K : PySem.W.Frag} {C : Addr} {newId B : String} {tl : List Value} {fs : List Str} (t : Tail tl B) (h : erB K C newId tl fs = true) : ErX K C B newId fs := by
  unfold erB at h
  simp only [Bool.and_eq_true, beq_iff_eq, List.all_eq_true] at h
  obtain ⟨h0, h1, h2, h3, h4, h5, h6, h7, h8, h9, h10, h11, h12, h13, h14⟩ := h
  refine ⟨⟨erB_cls t h0, h1, h2, h3, h4⟩, ⟨h5, h6, h2, h7⟩, ⟨?_, h5, h6, h2, h8, h9, h10, h11⟩, ⟨h11, h12, h13⟩, h14⟩
  obtain ⟨nm, q, N, bs, bm, sn, sub, ab, col, dd, k0, k1, k2, k3, k5, hC, _⟩ := erB_cls t h0
  unfold PySem.W.clsIn
  rw [hC]
  rfl

/-! ### the __init__ that stores what it is given -/
/-- one field -/
def spI (C : Addr) (f : Str) : Sp := fun vs H Q _ => ∃ a v, vs = [.ref a, v] ∧ H a = some (exo a C none) ∧ ∀ dx, H dx = none → dx ≠ a → Q .non (upd (upd H dx (exd dx [(f, v)])) a (exo a C (some dx)))
/-- two fields, f and then g -/
def spI2 (C : Addr) (f g : Str) : Sp := fun vs H Q _ => ∃ a v u, vs = [.ref a, v, u] ∧ H a = some (exo a C none) ∧ ∀ dx, H dx = none → dx ≠ a → Q .non (upd (upd (upd H dx (exd dx [(f, v)])) a (exo a C (some dx))) dx (exd dx [(g, u), (f, v)]))
/-- an error at a, of the class C, with these fields -/
def FldV (H : Hp) (a C : Addr) (fs : List (Str × V)) : Prop := ∃ d, H a = some (exo a C (some d)) ∧ H d = some (exd d fs)
theorem FldV.ex {H H' : Hp} {a C : Addr} {fs : List (Str × V)} (h : FldV H a C fs) (e : Evl.Ex H H') : FldV H' a C fs := by
  obtain ⟨d, h1, h2⟩ := h
  exact ⟨d, e _ _ h1, e _ _ h2⟩
theorem FldV.er {H : Hp} {a C : Addr} {fs : List (Str × V)} (h : FldV H a C fs) : ErV H a C := by
  obtain ⟨d, h1, h2⟩ := h
  exact .inl ⟨d, fs, h1, h2⟩
theorem heap1 {H : Hp} {a dx C : Addr} {fs : List (Str × V)} {o : HO} (na : H a = none) (nd : H dx = none) (ne : dx ≠ a) : upd (del (upd (upd (upd H a o) dx (exd dx fs)) a (exo a C (some dx))) a) dx (.xd fs) = upd H dx (.xd fs) := by
  funext b
  by_cases hd : b = dx
  · rw [hd, upd_same, upd_same]
  · rw [upd_ne hd, upd_ne hd]
    by_cases hb : b = a
    · rw [hb, del_same, na]
    · rw [del_ne hb, upd_ne hb, upd_ne hd, upd_ne hb]
theorem heap2 {H : Hp} {a dx C : Addr} {fs gs : List (Str × V)} {o : HO} (na : H a = none) (nd : H dx = none) (ne : dx ≠ a) :
    upd (del (upd (upd (upd (upd H a o) dx (exd dx fs)) a (exo a C (some dx))) dx (exd dx gs)) a) dx (.xd gs) = upd H dx (.xd gs) := by
  funext b
  by_cases hd : b = dx
  · rw [hd, upd_same, upd_same]
  · rw [upd_ne hd, upd_ne hd]
    by_cases hb : b = a
    · rw [hb, del_same, na]
    · rw [del_ne hb, upd_ne hd, upd_ne hb, upd_ne hd, upd_ne hb]
theorem upd_none {H : Hp} {a b : Addr} {o : HO} (h : upd H a o b = none) : H b = none ∧ b ≠ a := by
  by_cases e : b = a
  · rw [e, upd_same] at h
    cases h
  · rw [upd_ne e] at h
    exact ⟨h, e⟩
/-- raise C(v) -/
theorem mk1 {C : Addr} {f : Str} {H1 : Hp} {v : V} {Q : XK} (k : ∀ d, H1 d = none → Q (.ref C) (some d) (upd H1 d (.xd [(f, v)]))) : [v].length ≤ 1000 ∧ ∀ a, H1 a = none → spI C f (.ref a :: ([v] ++ [])) (upd H1 a (exo a C none))
    (fun v H2 => v = .non ∧ ∃ (d : Addr) (fs : List (Str × V)), H2 a = some (exo a C (some d)) ∧ H2 d = some (exd d fs) ∧ H1 d = none ∧ Q (.ref C) (some d) (upd (del H2 a) d (.xd fs))) (fun _ _ _ => False) := by
  refine ⟨by simp, fun a na => ⟨a, v, rfl, upd_same, fun dx nd ne => ⟨rfl, dx, [(f, v)], upd_same, ?_, (upd_none nd).1, ?_⟩⟩⟩
  · rw [upd_ne ne, upd_same]
  · rw [heap1 na (upd_none nd).1 ne]
    exact k dx (upd_none nd).1
/-- raise C(v, u) -/
theorem mk2 {C : Addr} {f g : Str} {H1 : Hp} {v u : V} {Q : XK} (k : ∀ d, H1 d = none → Q (.ref C) (some d) (upd H1 d (.xd [(g, u), (f, v)]))) : [v, u].length ≤ 1000 ∧ ∀ a, H1 a = none → spI2 C f g (.ref a :: ([v, u] ++ [])) (upd H1 a (exo a C none))
    (fun v H2 => v = .non ∧ ∃ (d : Addr) (fs : List (Str × V)), H2 a = some (exo a C (some d)) ∧ H2 d = some (exd d fs) ∧ H1 d = none ∧ Q (.ref C) (some d) (upd (del H2 a) d (.xd fs))) (fun _ _ _ => False) := by
  refine ⟨by simp, fun a na => ⟨a, v, u, rfl, upd_same, fun dx nd ne => ⟨rfl, dx, [(g, u), (f, v)], ?_, upd_same, (upd_none nd).1, ?_⟩⟩⟩
  · rw [upd_ne (Ne.symm ne), upd_same]
  · rw [heap2 na (upd_none nd).1 ne]
    exact k dx (upd_none nd).1
/-- C(v) as a value -/
theorem ob1 {C : Addr} {f : Str} {H1 : Hp} {v : V} {Q : VK} (k : ∀ a H2, Evl.Ex H1 H2 → H1 a = none → FldV H2 a C [(f, v)] → Q (.ref a) H2) (a : Addr) (na : H1 a = none) {E : XK} :
    spI C f [.ref a, v] (upd H1 a (exo a C none)) (fun v H2 => v = .non ∧ Q (.ref a) H2) E := by
  refine ⟨a, v, rfl, upd_same, fun dx nd ne => ⟨rfl, k a _ (fun x o hx => ?_) na ⟨dx, upd_same, by rw [upd_ne ne, upd_same]⟩⟩⟩
  rw [upd_ne (ne_of_none hx na), upd_ne (ne_of_none hx (upd_none nd).1), upd_ne (ne_of_none hx na)]
  exact hx
/-- C(v, u) as a value -/
theorem ob2 {C : Addr} {f g : Str} {H1 : Hp} {v u : V} {Q : VK} (k : ∀ a H2, Evl.Ex H1 H2 → H1 a = none → FldV H2 a C [(g, u), (f, v)] → Q (.ref a) H2) (a : Addr) (na : H1 a = none) {E : XK} :
    spI2 C f g [.ref a, v, u] (upd H1 a (exo a C none)) (fun v H2 => v = .non ∧ Q (.ref a) H2) E := by
  refine ⟨a, v, u, rfl, upd_same, fun dx nd ne => ⟨rfl, k a _ (fun x o hx => ?_) na ⟨dx, by rw [upd_ne (Ne.symm ne), upd_same], upd_same⟩⟩⟩
  have n0 := (upd_none nd).1
  rw [upd_ne (ne_of_none hx n0), upd_ne (ne_of_none hx na), upd_ne (ne_of_none hx n0), upd_ne (ne_of_none hx na)]
  exact hx
/-- C() as a value -/
theorem ob0 {C : Addr} {H1 : Hp} {Q : VK} (k : ∀ a H2, Evl.Ex H1 H2 → H1 a = none → ErV H2 a C → Q (.ref a) H2) (a : Addr) (na : H1 a = none) : Q (.ref a) (upd H1 a (ExO (.ref C) a)) :=
  k a _ (Evl.Ex.new na) na (.inr upd_same)
end Xc
namespace Xc
open PySem PySem.Spec PyProof.Rows L2
/-- which of these classes is one of which: all lie under E but N, which is a KeyError -/
def tabB (K : PySem.W.Frag) (cs : List Addr) (E N : Addr) : Bool :=
  decide cs.Nodup && (cs.all (fun c => cs.all fun d => PySem.W.exmOne K (.ref c) (.ref d) == some (c == d) && (PySem.W.kitOne K (.ref c) (.ref d) == some (c == d) && PySem.W.subIn K (.ref c) (.ref d) == some (c == d))) &&
  cs.all fun c => PySem.W.exmOne K (.ref c) (.ref E) == some (c != N) && (PySem.W.exmOne K (.ref c) (.type "KeyError") == some (c == N) && (PySem.W.kitOne K (.ref c) (.ref E) == some (c != N) && (PySem.W.kitOne K (.ref c) (.type "KeyError") == some (c == N) &&
    PySem.W.kitOne K (.ref c) (.type "ValueError") == some false))))
section
variable {K : PySem.W.Frag} {cs : List Addr} {E N : Addr}
theorem tab_nodup (h : tabB K cs E N = true) : cs.Nodup := by
  unfold tabB at h
  simp only [Bool.and_eq_true, decide_eq_true_eq] at h
  exact h.1
theorem tab_pair (h : tabB K cs E N = true) {c d : Addr} (hc : c ∈ cs) (hd : d ∈ cs) :
    PySem.W.exmOne K (.ref c) (.ref d) = some (c == d) ∧ PySem.W.kitOne K (.ref c) (.ref d) = some (c == d) ∧ PySem.W.subIn K (.ref c) (.ref d) = some (c == d) := by
  unfold tabB at h
  simp only [Bool.and_eq_true, List.all_eq_true, beq_iff_eq] at h
  exact h.2.1 c hc d hd
theorem tab_one (h : tabB K cs E N = true) {c : Addr} (hc : c ∈ cs) :
    PySem.W.exmOne K (.ref c) (.ref E) = some (c != N) ∧ PySem.W.exmOne K (.ref c) (.type "KeyError") = some (c == N) ∧ PySem.W.kitOne K (.ref c) (.ref E) = some (c != N) ∧ PySem.W.kitOne K (.ref c) (.type "KeyError") = some (c == N) ∧
    PySem.W.kitOne K (.ref c) (.type "ValueError") = some false := by
  unfold tabB at h
  simp only [Bool.and_eq_true, List.all_eq_true, beq_iff_eq] at h
  exact h.2.2 c hc
end
end Xc
set_option maxRecDepth 100000
set_option maxHeartbeats 4000000
/-! try with several except clauses, each with a name or without (the hand layer has several without, or one with). -/
namespace Xc
open PySem PySem.Spec PyProof.Rows L2
abbrev Cl := Value × Option Nat × (Addr → Value → Option Addr → TS)
/-- what the name of a clause adds: its slot holds the error in the suite, and nothing behind it -/
def named (j : Option Nat) (a : Addr) (t : TS) : TS := match j with
  | none => t
  | some i => fun D σ H => t { nx := fun σ' H' => D.nx (σ'.set i none) H', rt := D.rt, bk := fun σ' H' => D.bk (σ'.set i none) H', ct := fun σ' H' => D.ct (σ'.set i none) H' } (σ.set i (some (.ref a))) H
def wAll (K : PySem.W.Frag) (Wout : WX) (D : Ends) : List Cl → WX
  | [] => Wout
  | (c, j, ts) :: r => fun cls d σ H => ∃ b, PySem.W.exmOne K cls c = some b ∧ (b = true → ∀ a, H a = none → named j a (ts a cls d) D σ H) ∧ (b = false → wAll K Wout D r cls d σ H)
inductive Hds (X : Cx) : List ExceptHandler → List Cl → Prop
  | nil : Hds X [] []
  | bare {x : Str} {c : Value} {ts : Addr → Value → Option Addr → TS} {b₀ : Stmt} {suite : List Stmt} {np pos' : Pos} {hds : List ExceptHandler} {l : List Cl} (hc : Names X x c)
      (hsu : ∀ (a : Addr) (oe : Obj) (cls : Value) (d : Option Addr) (pn : List (Addr × Obj)), Zc cls d oe → (∃ vs, oe.data = .fields vs) → PSs (X.suite a ((a, oe) :: pn)) (b₀ :: suite) (ts a cls d)) (r : Hds X hds l) :
      Hds X (.ExceptHandler (some (.Name x np)) none (b₀ :: suite) pos' :: hds) ((c, none, ts) :: l)
  | as_ {x n : Str} {i : Nat} {c : Value} {ts : Addr → Value → Option Addr → TS} {b₀ : Stmt} {suite : List Stmt} {np pos' : Pos} {hds : List ExceptHandler} {l : List Cl} (hN : X.N.Nodup) (hi : X.N[i]? = some n) (hln : X.env.kindOf n = some .local) (hc : Names X x c)
      (hsu : ∀ (a : Addr) (oe : Obj) (cls : Value) (d : Option Addr) (pn : List (Addr × Obj)), Zc cls d oe → (∃ vs, oe.data = .fields vs) → PSs (X.suite a ((a, oe) :: pn)) (b₀ :: suite) (ts a cls d)) (r : Hds X hds l) :
      Hds X (.ExceptHandler (some (.Name x np)) (some n) (b₀ :: suite) pos' :: hds) ((c, some i, ts) :: l)
section
variable {X : Cx} {body : List Stmt} {h₀ : ExceptHandler} {hds : List ExceptHandler} {l : List Cl} {pos : Pos} {tb : WX → TS} {Wout : WX}
theorem ps_try_all (hs : X.stack = X.env :: X.outer) (hf : X.env.frame = some X.env.locals) (tk : Takes X Wout)
    (hb : ∀ (W : WX) (pn : List (Addr × Obj)) (xe : Value → Shared → Prop), Takes (X.tr pn xe) W → PassesOwn (model X.prog X.w) X.A X.env xe → PSs (X.tr pn xe) body (tb W))
    (hh : Hds X (h₀ :: hds) l) : PS X (.Try body (h₀ :: hds) [] [] pos) (fun D σ H => tb (wAll X.K Wout D l) D σ H) := by
  refine ⟨fun pins s σ H D I h => ?_⟩
  have ok := I.ok
  have hfr : X.A.frames = some (X.env :: X.outer) := by rw [ok.frames, hs]
  refine wpAny_Try_except (wpAny_mono ((hb (wAll X.K Wout D l) (X.pn ++ pins) (fun e s₁ => wpAny (model X.prog X.w) X.A (noteFrame e X.env) (fun _ s₂ => wpAny (model X.prog X.w) X.A (setFlight e none) (fun _ s₃ =>
    wpAny (model X.prog X.w) X.A (handleBy e X.env (h₀ :: hds)) (SP X pins D) X.xe s₃) X.xe s₂) X.xe s₁) (fun u s' xx => ?_) PassesOwn.looking).run [] s σ H D (I.toTry _) h) (fun f s1 hsp => ?_) (fun e s1 he => he))
  · obtain ⟨a, B, sI, pins', σ', H', cls, d, rfl, J', nb, up, sky, na, os, ag, w⟩ := xx
    have J : Inv X pins σ' H' sI := J'.ofTry ok
    have sky1 : Sky B (X.env :: X.outer) a (Zc cls d) X.env.locals s'.heap := by rw [← hs]; exact sky
    show wpAny (model X.prog X.w) X.A (noteFrame (.ref a) X.env) _ _ _
    refine Sky.land Zc.steady hfr hf sky1 fun h3 fl up3 => ?_
    have J3 : Inv X pins σ' H' { s' with heap := h3 } := J.landed nb fl.1 (up.trans up3) os ag
    obtain ⟨oe3, vs3, he3, hz3, hd3⟩ := fl.there
    have nfr : a ∉ frs (X.env :: X.outer) := fun hm => by
      obtain ⟨_, o', e', hnf⟩ := fl.2.2.1.mem hm
      rw [he3] at e'
      cases e'
      exact hnf _ hd3
    have nL : a ≠ X.env.locals := fun z => nfr (List.mem_filterMap.mpr ⟨X.env, List.mem_cons_self, by rw [hf, z]⟩)
    have nF : a ∉ X.fs := fun hm => by
      obtain ⟨e, he, q⟩ := List.mem_filterMap.mp hm
      exact nfr (List.mem_filterMap.mpr ⟨e, List.mem_cons_of_mem _ he, q⟩)
    have S3 := J3.suite he3 hd3 na nL nF
    have LT : PySem.W.Looks (model X.prog X.w) h3 (typeOf (.ref a)) cls := fun A Q E s k q => wpAny_typeOf_ref (k _ _ he3) (by rw [hz3.1]; exact q)
    have tested : ∀ {x : Str} {c : Value} {np : Pos} {Q : Value → Shared → Prop} {E : Value → Shared → Prop}, Names X x c → Q c { s' with heap := h3 } → wpAny (model X.prog X.w) (X.A.mark (some (.ref a))) (eval (.Name x np) X.env) Q E { s' with heap := h3 } := fun {x c np Q E} hc q => by
      obtain ⟨hg, hdbg, hm | ⟨hm, hv, hnn⟩⟩ := hc
      · exact ld_glob (X := X.suite a ((a, oe3) :: (X.pn ++ pins))) S3 hg hm q hdbg
      · exact ld_blt (X := X.suite a ((a, oe3) :: (X.pn ++ pins))) S3 hg hm hv q hnn hdbg
    have go : ∀ {hds' : List ExceptHandler} {l' : List Cl}, Hds X hds' l' → wAll X.K Wout D l' cls d σ' H' → wpAny (model X.prog X.w) X.A (handleBy (.ref a) X.env hds') (SP X pins D) X.xe { s' with heap := h3 } := by
      intro hds' l' hk
      induction hk with
      | nil =>
        intro w
        refine wpAny_handleBy_nil ?_
        obtain ⟨k1, k2, k3, oe, vs, T, oT, ts', he, hz, hd, h1, hr⟩ := id fl
        unfold PySem.passOn
        refine wpAny_bind (wpAny_field he hd h1 ?_)
        rw [if_neg (show ¬ ((Value.ref T == Value.none) = true) from by simp)]
        have fin : wpAny (model X.prog X.w) X.A (setFlight (.ref a) X.env.frame) (fun _ s4 => wpAny (model X.prog X.w) X.A (throw (.ref a) : Sem Flow) (SP X pins D) X.xe s4) X.xe { s' with heap := h3 } := by
          rw [hf]
          refine HandSPX.setFlight_upZ fl fun h4 hh4 up4 => wpAny_throw (tk _ _ ⟨a, B, sI, pins, σ', H', cls, d, rfl, J, nb, (up.trans up3).trans up4, .inr (.inr (by rw [hs]; exact hh4)), na, os, ag, w⟩)
        first
          | exact wpAny_bind (wpAny_pure (wpAny_bind fin))
          | exact wpAny_bind fin
      | @bare x c ts b₀ suite np pos' hds2 l2 hc hsu r ih =>
        intro w
        obtain ⟨b, hb1, hyes, hno⟩ := w
        refine wpAny_handleBy_cons (codeAny_handlers_test (tested hc ((PySem.W.exm_one (M := model X.prog X.w) (J3.kIn) LT hb1).here ?_))) (by intro q; cases q)
        cases b with
        | false => exact ih (hno rfl)
        | true =>
          refine codeAny_handlers_suite (HandSPX.lands_againZ fl fun h4 fl4 up4 => ?_)
          have J4 : Inv X pins σ' H' { s' with heap := h4 } := J.landed nb fl4.1 ((up.trans up3).trans up4) os ag
          obtain ⟨oe4, vs4, he4, hz4, hd4⟩ := fl4.there
          refine wpAny_mono ((hsu a oe4 cls d (X.pn ++ pins) hz4 ⟨_, hd4⟩).run [] _ _ H' _ (J4.suite he4 hd4 na nL nF) (hyes rfl a na)) (fun f s6 hsp => ?_) (fun _ _ z => False.elim z)
          cases f with
          | ret u =>
            obtain ⟨v6, σ6, H6, S6, r6, q6⟩ := hsp
            exact ⟨_, _, _, S6.unsuite ok, r6, q6⟩
          | next =>
            obtain ⟨σ6, H6, S6, q6⟩ := hsp
            exact ⟨_, _, S6.unsuite ok, q6⟩
          | brk =>
            obtain ⟨σ6, H6, S6, q6⟩ := hsp
            exact ⟨_, _, S6.unsuite ok, q6⟩
          | cont =>
            obtain ⟨σ6, H6, S6, q6⟩ := hsp
            exact ⟨_, _, S6.unsuite ok, q6⟩
      | @as_ x n i c ts b₀ suite np pos' hds2 l2 hN hi hln hc hsu r ih =>
        intro w
        obtain ⟨b, hb1, hyes, hno⟩ := w
        refine wpAny_handleBy_cons (codeAny_handlers_test (tested hc ((PySem.W.exm_one (M := model X.prog X.w) (J3.kIn) LT hb1).here ?_))) (by intro q; cases q)
        cases b with
        | false => exact ih (hno rfl)
        | true =>
          refine codeAny_handlers_suite_as (HandSPX.lands_againZ fl fun h4 fl4 up4 => ?_)
          have J4 : Inv X pins σ' H' { s' with heap := h4 } := J.landed nb fl4.1 ((up.trans up3).trans up4) os ag
          obtain ⟨oe4, vs4, he4, hz4, hd4⟩ := fl4.there
          refine store_ok (X := X.suite a ((a, oe4) :: (X.pn ++ pins))) (v := .ref a) (J4.suite he4 hd4 na nL nF) hN hi (.inl hln) rfl (fun s5 S5 => ?_) (.inr hln)
          refine wpAny_mono ((hsu a oe4 cls d (X.pn ++ pins) hz4 ⟨_, hd4⟩).run [] s5 _ H' _ S5 (hyes rfl a na)) (fun f s6 hsp => ?_) (fun _ _ z => False.elim z)
          have shut : ∀ {σ6 : L2.St} {H6 : Hp} {Q : Shared → Prop}, Inv (X.suite a ((a, oe4) :: (X.pn ++ pins))) [] σ6 H6 s6 → (∀ s7, Inv X pins (σ6.set i none) H6 s7 → Q s7) →
              wpAny (model X.prog X.w) X.A (do bindName X.env n .none; unbindBehindTheSuite X.env n pos') (fun _ s7 => Q s7) X.xe s6 := fun {σ6 H6 Q} S6 hq => gone_ok (S6.unsuite ok) hN hi hln hq
          cases f with
          | ret u =>
            obtain ⟨v6, σ6, H6, S6, r6, q6⟩ := hsp
            exact shut S6 fun s7 J7 => ⟨_, _, _, J7, r6, q6⟩
          | next =>
            obtain ⟨σ6, H6, S6, q6⟩ := hsp
            exact shut S6 fun s7 J7 => ⟨_, _, J7, q6⟩
          | brk =>
            obtain ⟨σ6, H6, S6, q6⟩ := hsp
            exact shut S6 fun s7 J7 => ⟨_, _, J7, q6⟩
          | cont =>
            obtain ⟨σ6, H6, S6, q6⟩ := hsp
            exact shut S6 fun s7 J7 => ⟨_, _, J7, q6⟩
    exact go hh w
  · cases f with
    | ret u =>
      obtain ⟨v, σ', H', J', r, q⟩ := hsp
      exact ⟨v, σ', H', J'.ofTry ok, r, q⟩
    | next =>
      obtain ⟨σ', H', J', q⟩ := hsp
      exact wpAny_execs_nil ⟨σ', H', J'.ofTry ok, q⟩
    | brk =>
      obtain ⟨σ', H', J', q⟩ := hsp
      exact ⟨σ', H', J'.ofTry ok, q⟩
    | cont =>
      obtain ⟨σ', H', J', q⟩ := hsp
      exact ⟨σ', H', J'.ofTry ok, q⟩
end
end Xc
set_option maxRecDepth 100000
set_option maxHeartbeats 4000000
/-! int(text) of up to 4300 digits (the hand layer has 640); text * number. -/
namespace Lg
open PySem PySem.Calls PySem.NumText PyProof.Rows PySem.W
theorem wp_long {M : Model} {A : Around} {E : Value → Shared → Prop} {s : Shared} {Q : Value → Shared → Prop} {v : Value} {text : List Nat} {n : Int} (ld : Looks M s.heap (nsGet cStatics "sys.int_max_str_digits") none)
    (hs : ¬ (text.takeWhile (· != 0)).length ≤ 640) (hr : (int_private% "readNumeral") 4300 10 (text.takeWhile (· != 0)) = (int_private% "Numeral.value") n)
    (ha : ((text.takeWhile (· != 0)).length == text.length) = true) (h : Q (.int n s.toks) { s with toks := s.toks + 1 }) : wpAny M A ((int_private% "intFromText") v text 10) Q E s := by
  obtain ⟨hp, g, d, tk, os⟩ := s
  have hf : decide ((text.takeWhile (· != 0)).length ≤ 640) = false := decide_eq_false hs
  repeat (any_goals (first
    | assumption
    | (with_reducible refine wpAny_ite_true (decide_eq_true ha) ?_)
    | (with_reducible refine ld.at ?_)
    | wp_step))
  all_goals (try rw [hr])
  all_goals (try dsimp only)
  repeat (any_goals (first
    | assumption
    | (with_reducible refine wpAny_ite_true ha ?_)
    | wp_step))
theorem meets_long {x : PySem.Str} {u : Tok} {n : Int} (hs : ¬ (numSeenOf x).length ≤ 640) (hr : (int_private% "readNumeral") 4300 10 (numSeenOf x) = (int_private% "Numeral.value") n) (ha : ((numSeenOf x).length == (numTextOf x).length) = true) :
    Meets (Builtin.«int.__new__» ⟨[.type "int", .str x u], []⟩) (fun _ R s => (∀ M, Looks M s.heap (nsGet cStatics "sys.int_max_str_digits") none) ∧ R (.ok (.ret (.int n s.toks))) { s with toks := s.toks + 1 }) := by
  intro prog w A R s h
  obtain ⟨hp, g, d, tk, os⟩ := s
  obtain ⟨ld, h⟩ := h
  have f1 := F.conv_sub_int
  have f2 := F.madeHere_int
  have f3 := KIN.str_int
  have f4 := KIN.str_idx
  have f5 := KIN.str_trunc
  have f6 : typeOf (.str x u) = pure (.type "str") := rfl
  have hk := KIN.Hid.mk (And.intro hs (And.intro hr ha))
  have hl := KIN.Hid.mk (ld (model prog w))
  clear hs hr ha ld
  repeat (any_goals (first
    | assumption
    | ((with_reducible show wpAny _ _ ((int_private% "intFromText") _ _ _) _ _ _); refine wp_long hl.out hk.out.1 hk.out.2.1 hk.out.2.2 ?_)
    | wp_step))
theorem call_long {prog : Program} {w : World} {A : Around} {E : Value → Shared → Prop} {s : Shared} {Q : Value → Shared → Prop} {x : PySem.Str} {t : Tok} {n : Int} (ld : ∀ M, Looks M s.heap (nsGet cStatics "sys.int_max_str_digits") none) (hn : PySem.intText? x = some n) (hx : x.length ≤ 4300)
    (h : Q (.int n s.toks) { s with toks := s.toks + 1 }) : wpAny (model prog w) A (call (.type "int") [.str x t]) Q E s := by
  by_cases hs : (numSeenOf x).length ≤ 640
  · have hk : (int_private% "readNumeral") 0 10 (numSeenOf x) = (int_private% "Numeral.value") n ∧ ((numSeenOf x).length == (numTextOf x).length) = true := by
      rcases read0 x hs with ⟨m, h1, h2, h3⟩ | ⟨h1, _⟩
      · rw [hn] at h1
        injection h1 with h1
        subst h1
        exact ⟨h3, h2⟩
      · rw [hn] at h1
        cases h1
    refine call_int_1 (S := fun _ R s => R (.ok (.ret (.int n s.toks))) { s with toks := s.toks + 1 }) ?_ ⟨rfl, h⟩
    intro prog w A R s h
    obtain ⟨hp, g, d, tk, os⟩ := s
    have f1 := F.conv_sub_int
    have f2 := F.madeHere_int
    have f3 := KIN.str_int
    have f4 := KIN.str_idx
    have f5 := KIN.str_trunc
    have f6 : typeOf (.str x t) = pure (.type "str") := rfl
    have hh := KIN.Hid.mk (And.intro hs hk)
    clear hs hk hn hx
    repeat (any_goals (first
      | assumption
      | ((with_reducible show wpAny _ _ ((int_private% "intFromText") _ _ _) _ _ _); refine KIN.wp_text hh.out.1 hh.out.2.1 hh.out.2.2 ?_)
      | wp_step))
  · have hk : (int_private% "readNumeral") 4300 10 (numSeenOf x) = (int_private% "Numeral.value") n ∧ ((numSeenOf x).length == (numTextOf x).length) = true := by
      rcases read4300 x (Nat.le_trans hx (by rw [sizeLine_eq]; decide)) with ⟨m, h1, h2, h3⟩ | ⟨h1, _⟩
      · rw [hn] at h1
        injection h1 with h1
        subst h1
        exact ⟨h3, h2⟩
      · rw [hn] at h1
        cases h1
    exact call_int_1 (meets_long hs hk.1 hk.2) ⟨ld, ⟨rfl, h⟩⟩
end Lg
namespace Lg
open PySem PySem.Spec PyProof.Rows L2
section
variable {X : Cx}
/-- int(text) -/
theorem call_intLong (dig : PySem.W.nsIn X.K cStatics "sys.int_max_str_digits" = some none) : CallR X (.type "int") (fun xs H Q => ∃ a n, xs = [.str a] ∧ PySem.intText? a = some n ∧ a.length ≤ 4300 ∧ Q (.int n) H) := by
  intro pins s σ H xs us Q I rs h
  obtain ⟨a, n, rfl, hn, hl, h⟩ := h
  cases rs with
  | cons r1 rs =>
    cases rs
    obtain ⟨t, rfl⟩ := r1
    exact call_long (fun M => PySem.W.looks_nsIn I.kIn dig) hn hl ⟨.int n, H, I.tok _, ⟨_, rfl⟩, h⟩
/-- text * number -/
def repS (x : Str) (n : Nat) : Str := ⟨(List.replicate n x.cps).foldl (· ++ ·) #[]⟩
theorem repS_len (a : Str) (n : Nat) : (repS a n).length = a.length * n := by
  have key : ∀ (n : Nat) (acc : Array Nat), ((List.replicate n a.cps).foldl (· ++ ·) acc).size = acc.size + a.cps.size * n := by
    intro n
    induction n with
    | zero => intro acc; simp
    | succ n ih =>
      intro acc
      rw [List.replicate_succ, List.foldl_cons, ih, Array.size_append, Nat.mul_succ]
      omega
  show ((List.replicate n a.cps).foldl (· ++ ·) #[]).size = a.cps.size * n
  rw [key]
  simp
theorem op_repS : OpR X (binaryOp .Mult) (fun x y H Q => ∃ (a : Str) (n : Nat), x = .str a ∧ y = .int n ∧ 2 ≤ n ∧ n ≤ 5000 ∧ 1 ≤ a.length ∧ a.length ≤ 1000 ∧ Q (.str (repS a n)) H) := by
  intro pins s σ H x y v u Q I rx ry h
  obtain ⟨a, n, rfl, rfl, n2, n5, a1, a2, q⟩ := h
  obtain ⟨t, rfl⟩ := rx
  obtain ⟨t2, rfl⟩ := ry
  have b1 : ((n : Int) == 1 || a.length == 0) = false := by
    rw [Bool.or_eq_false_iff]
    exact ⟨beq_eq_false_iff_ne.mpr (by omega), beq_eq_false_iff_ne.mpr (by omega)⟩
  have le : a.length * n ≤ 5000000 := Nat.le_trans (Nat.mul_le_mul a2 n5) (by decide)
  refine PySem.P.mul_str (by rw [Bool.or_eq_false_iff]; exact ⟨decide_eq_false (by omega), decide_eq_false (by omega)⟩) (fun _ _ => ?_) (fun _ _ => ?_) ?_
  · have : (1000 : Int) ≤ (2 ^ 63 - 1) / (n : Int) := by
      refine (Int.le_ediv_iff_mul_le (by omega)).mpr ?_
      omega
    omega
  · rw [Int.toNat_natCast]
    exact decide_eq_false (by rw [sizeLine_eq]; omega)
  · rw [if_neg (by omega), if_neg (by rw [b1]; decide), Int.toNat_natCast]
    exact ⟨by show (repS a n).length ≤ sizeLine; rw [repS_len, sizeLine_eq]; omega, .str (repS a n), H, I.tok _, ⟨_, rfl⟩, q⟩
end
theorem repS_one (c n : Nat) : repS ⟨#[c]⟩ n = ⟨(List.replicate n c).toArray⟩ := by
  have key : ∀ (n : Nat) (acc : Array Nat), ((List.replicate n #[c]).foldl (· ++ ·) acc).toList = acc.toList ++ List.replicate n c := by
    intro n
    induction n with
    | zero => intro acc; simp
    | succ n ih =>
      intro acc
      rw [List.replicate_succ, List.foldl_cons, ih, Array.toList_append, List.replicate_succ]
      simp
  unfold repS
  have z := key n #[]
  rw [show (#[] : Array Nat).toList = [] from rfl, List.nil_append] at z
  exact congrArg Str.mk (by rw [← z])
end Lg
set_option maxRecDepth 100000
set_option maxHeartbeats 4000000
namespace K00
open PySem PySem.Spec PyProof.Rows L2 Pre
def topS (i : Nat) : Stmt := PySem.Challenge.pw_caseshome_k00_whole_errors_and_what_they.main.body.getD i (.Pass ⟨0, 0, 0, 0⟩)
abbrev s_law_box : Stmt := topS 15
abbrev s_law_take : Stmt := topS 16
abbrev s_law_pick : Stmt := topS 17
abbrev s_law_made : Stmt := topS 18
abbrev s_law_named : Stmt := topS 19
abbrev s_law_raise_one : Stmt := topS 20
abbrev s_law_raise : Stmt := topS 21
abbrev s_law_caught_one : Stmt := topS 22
abbrev s_law_caught : Stmt := topS 23
abbrev s_law_base : Stmt := topS 24
abbrev s_law_kinds : Stmt := topS 25
abbrev s_law_due : Stmt := topS 26
abbrev s_law_kept : Stmt := topS 27
abbrev s_law_equal : Stmt := topS 28
abbrev s_law_kind : Stmt := topS 29
abbrev s_law_thing : Stmt := topS 30
abbrev s_law_one_holds : Stmt := topS 31
abbrev s_law : Stmt := topS 32
theorem sc_law_box : FnScope ["script", "k", "cell"] ["script", "k"] (defScope s_law_box) := ⟨rfl, rfl, rfl, by decide +kernel, rfl, by decide +kernel, by decide +kernel⟩
theorem sc_law_take : FnScope ["box", "many", "digit", "raw"] ["box", "many"] (defScope s_law_take) := ⟨rfl, rfl, rfl, by decide +kernel, rfl, by decide +kernel, by decide +kernel⟩
theorem sc_law_pick : FnScope ["box", "some"] ["box", "some"] (defScope s_law_pick) := ⟨rfl, rfl, rfl, by decide +kernel, rfl, by decide +kernel, by decide +kernel⟩
theorem sc_law_made : FnScope ["number", "thing", "other"] ["number", "thing", "other"] (defScope s_law_made) := ⟨rfl, rfl, rfl, by decide +kernel, rfl, by decide +kernel, by decide +kernel⟩
theorem sc_law_named : FnScope ["number", "thing", "other"] ["number", "thing", "other"] (defScope s_law_named) := ⟨rfl, rfl, rfl, by decide +kernel, rfl, by decide +kernel, by decide +kernel⟩
theorem sc_law_raise_one : FnScope ["number", "thing", "other"] ["number", "thing", "other"] (defScope s_law_raise_one) := ⟨rfl, rfl, rfl, by decide +kernel, rfl, by decide +kernel, by decide +kernel⟩
theorem sc_law_raise : FnScope ["number", "thing", "other"] ["number", "thing", "other"] (defScope s_law_raise) := ⟨rfl, rfl, rfl, by decide +kernel, rfl, by decide +kernel, by decide +kernel⟩
theorem sc_law_caught_one : FnScope ["number", "thing", "other", "e"] ["number", "thing", "other"] (defScope s_law_caught_one) := ⟨rfl, rfl, rfl, by decide +kernel, rfl, by decide +kernel, by decide +kernel⟩
theorem sc_law_caught : FnScope ["number", "thing", "other", "e"] ["number", "thing", "other"] (defScope s_law_caught) := ⟨rfl, rfl, rfl, by decide +kernel, rfl, by decide +kernel, by decide +kernel⟩
theorem sc_law_base : FnScope ["number", "thing", "other"] ["number", "thing", "other"] (defScope s_law_base) := ⟨rfl, rfl, rfl, by decide +kernel, rfl, by decide +kernel, by decide +kernel⟩
theorem sc_law_kinds : FnScope ["error"] ["error"] (defScope s_law_kinds) := ⟨rfl, rfl, rfl, by decide +kernel, rfl, by decide +kernel, by decide +kernel⟩
theorem sc_law_due : FnScope ["number", "at"] ["number"] (defScope s_law_due) := ⟨rfl, rfl, rfl, by decide +kernel, rfl, by decide +kernel, by decide +kernel⟩
theorem sc_law_kept : FnScope ["number", "error"] ["number", "error"] (defScope s_law_kept) := ⟨rfl, rfl, rfl, by decide +kernel, rfl, by decide +kernel, by decide +kernel⟩
theorem sc_law_equal : FnScope ["one", "other", "waiting", "k", "here", "there", "at"] ["one", "other"] (defScope s_law_equal) := ⟨rfl, rfl, rfl, by decide +kernel, rfl, by decide +kernel, by decide +kernel⟩
theorem sc_law_kind : FnScope ["thing"] ["thing"] (defScope s_law_kind) := ⟨rfl, rfl, rfl, by decide +kernel, rfl, by decide +kernel, by decide +kernel⟩
theorem sc_law_thing : FnScope ["box", "thing", "k"] ["box"] (defScope s_law_thing) := ⟨rfl, rfl, rfl, by decide +kernel, rfl, by decide +kernel, by decide +kernel⟩
theorem sc_law_one_holds : FnScope ["box", "number", "thing", "other", "due", "caught", "error", "named", "row", "another"] ["box", "number"] (defScope s_law_one_holds) := ⟨rfl, rfl, rfl, by decide +kernel, rfl, by decide +kernel, by decide +kernel⟩
theorem sc_law : FnScope ["script", "box", "number"] ["script"] (defScope s_law) := ⟨rfl, rfl, rfl, by decide +kernel, rfl, by decide +kernel, by decide +kernel⟩
def inCls (s : Stmt) (j : Nat) : Stmt := match s with
  | .ClassDef _ _ _ b _ _ _ _ _ _ _ => b.getD j (.Pass ⟨0, 0, 0, 0⟩)
  | _ => .Pass ⟨0, 0, 0, 0⟩
abbrev s_InvalidHeap_i : Stmt := inCls (topS 2) 0
theorem sc_InvalidHeap_i : FnScope ["self", "at"] ["self", "at"] (defScope s_InvalidHeap_i) := ⟨rfl, rfl, rfl, by decide +kernel, rfl, by decide +kernel, by decide +kernel⟩
abbrev s_InvalidPlan_i : Stmt := inCls (topS 3) 0
theorem sc_InvalidPlan_i : FnScope ["self", "word", "at"] ["self", "word", "at"] (defScope s_InvalidPlan_i) := ⟨rfl, rfl, rfl, by decide +kernel, rfl, by decide +kernel, by decide +kernel⟩
abbrev s_InvalidText_i : Stmt := inCls (topS 4) 0
theorem sc_InvalidText_i : FnScope ["self", "at"] ["self", "at"] (defScope s_InvalidText_i) := ⟨rfl, rfl, rfl, by decide +kernel, rfl, by decide +kernel, by decide +kernel⟩
abbrev s_InvalidRun_i : Stmt := inCls (topS 5) 0
theorem sc_InvalidRun_i : FnScope ["self", "at"] ["self", "at"] (defScope s_InvalidRun_i) := ⟨rfl, rfl, rfl, by decide +kernel, rfl, by decide +kernel, by decide +kernel⟩
abbrev s_InvalidTerm_i : Stmt := inCls (topS 6) 0
theorem sc_InvalidTerm_i : FnScope ["self", "place"] ["self", "place"] (defScope s_InvalidTerm_i) := ⟨rfl, rfl, rfl, by decide +kernel, rfl, by decide +kernel, by decide +kernel⟩
abbrev s_InvalidCarry_i : Stmt := inCls (topS 7) 0
theorem sc_InvalidCarry_i : FnScope ["self", "at"] ["self", "at"] (defScope s_InvalidCarry_i) := ⟨rfl, rfl, rfl, by decide +kernel, rfl, by decide +kernel, by decide +kernel⟩
abbrev s_InvalidDeed_i : Stmt := inCls (topS 8) 0
theorem sc_InvalidDeed_i : FnScope ["self", "at"] ["self", "at"] (defScope s_InvalidDeed_i) := ⟨rfl, rfl, rfl, by decide +kernel, rfl, by decide +kernel, by decide +kernel⟩
abbrev s_InvalidOctets_i : Stmt := inCls (topS 9) 0
theorem sc_InvalidOctets_i : FnScope ["self", "at"] ["self", "at"] (defScope s_InvalidOctets_i) := ⟨rfl, rfl, rfl, by decide +kernel, rfl, by decide +kernel, by decide +kernel⟩
abbrev s_InvalidSize_i : Stmt := inCls (topS 11) 0
theorem sc_InvalidSize_i : FnScope ["self", "word"] ["self", "word"] (defScope s_InvalidSize_i) := ⟨rfl, rfl, rfl, by decide +kernel, rfl, by decide +kernel, by decide +kernel⟩
abbrev s_Refused_i : Stmt := inCls (topS 12) 0
theorem sc_Refused_i : FnScope ["self", "word"] ["self", "word"] (defScope s_Refused_i) := ⟨rfl, rfl, rfl, by decide +kernel, rfl, by decide +kernel, by decide +kernel⟩
abbrev s_NoName_i : Stmt := inCls (topS 13) 0
theorem sc_NoName_i : FnScope ["self", "name"] ["self", "name"] (defScope s_NoName_i) := ⟨rfl, rfl, rfl, by decide +kernel, rfl, by decide +kernel, by decide +kernel⟩
structure Tx (K : PySem.W.Frag) (mg : Str → Option Value) where
  law_box : Addr
  law_box_fd : FuncData
  law_box_F : Fun K "_law_box" "_law_box" s_law_box law_box law_box_fd
  law_box_m : mg "_law_box" = some (.ref law_box)
  law_box_b : Binds K law_box_fd ["script", "k"] []
  law_take : Addr
  law_take_fd : FuncData
  law_take_F : Fun K "_law_take" "_law_take" s_law_take law_take law_take_fd
  law_take_m : mg "_law_take" = some (.ref law_take)
  law_take_b : Binds K law_take_fd ["box", "many"] []
  law_pick : Addr
  law_pick_fd : FuncData
  law_pick_F : Fun K "_law_pick" "_law_pick" s_law_pick law_pick law_pick_fd
  law_pick_m : mg "_law_pick" = some (.ref law_pick)
  law_pick_b : Binds K law_pick_fd ["box", "some"] []
  law_made : Addr
  law_made_fd : FuncData
  law_made_F : Fun K "_law_made" "_law_made" s_law_made law_made law_made_fd
  law_made_m : mg "_law_made" = some (.ref law_made)
  law_made_b : Binds K law_made_fd ["number", "thing", "other"] []
  law_named : Addr
  law_named_fd : FuncData
  law_named_F : Fun K "_law_named" "_law_named" s_law_named law_named law_named_fd
  law_named_m : mg "_law_named" = some (.ref law_named)
  law_named_b : Binds K law_named_fd ["number", "thing", "other"] []
  law_raise_one : Addr
  law_raise_one_fd : FuncData
  law_raise_one_F : Fun K "_law_raise_one" "_law_raise_one" s_law_raise_one law_raise_one law_raise_one_fd
  law_raise_one_m : mg "_law_raise_one" = some (.ref law_raise_one)
  law_raise_one_b : Binds K law_raise_one_fd ["number", "thing", "other"] []
  law_raise : Addr
  law_raise_fd : FuncData
  law_raise_F : Fun K "_law_raise" "_law_raise" s_law_raise law_raise law_raise_fd
  law_raise_m : mg "_law_raise" = some (.ref law_raise)
  law_raise_b : Binds K law_raise_fd ["number", "thing", "other"] []
  law_caught_one : Addr
  law_caught_one_fd : FuncData
  law_caught_one_F : Fun K "_law_caught_one" "_law_caught_one" s_law_caught_one law_caught_one law_caught_one_fd
  law_caught_one_m : mg "_law_caught_one" = some (.ref law_caught_one)
  law_caught_one_b : Binds K law_caught_one_fd ["number", "thing", "other"] []
  law_caught : Addr
  law_caught_fd : FuncData
  law_caught_F : Fun K "_law_caught" "_law_caught" s_law_caught law_caught law_caught_fd
  law_caught_m : mg "_law_caught" = some (.ref law_caught)
  law_caught_b : Binds K law_caught_fd ["number", "thing", "other"] []
  law_base : Addr
  law_base_fd : FuncData
  law_base_F : Fun K "_law_base" "_law_base" s_law_base law_base law_base_fd
  law_base_m : mg "_law_base" = some (.ref law_base)
  law_base_b : Binds K law_base_fd ["number", "thing", "other"] []
  law_kinds : Addr
  law_kinds_fd : FuncData
  law_kinds_F : Fun K "_law_kinds" "_law_kinds" s_law_kinds law_kinds law_kinds_fd
  law_kinds_m : mg "_law_kinds" = some (.ref law_kinds)
  law_kinds_b : Binds K law_kinds_fd ["error"] []
  law_due : Addr
  law_due_fd : FuncData
  law_due_F : Fun K "_law_due" "_law_due" s_law_due law_due law_due_fd
  law_due_m : mg "_law_due" = some (.ref law_due)
  law_due_b : Binds K law_due_fd ["number"] []
  law_kept : Addr
  law_kept_fd : FuncData
  law_kept_F : Fun K "_law_kept" "_law_kept" s_law_kept law_kept law_kept_fd
  law_kept_m : mg "_law_kept" = some (.ref law_kept)
  law_kept_b : Binds K law_kept_fd ["number", "error"] []
  law_equal : Addr
  law_equal_fd : FuncData
  law_equal_F : Fun K "_law_equal" "_law_equal" s_law_equal law_equal law_equal_fd
  law_equal_m : mg "_law_equal" = some (.ref law_equal)
  law_equal_b : Binds K law_equal_fd ["one", "other"] []
  law_kind : Addr
  law_kind_fd : FuncData
  law_kind_F : Fun K "_law_kind" "_law_kind" s_law_kind law_kind law_kind_fd
  law_kind_m : mg "_law_kind" = some (.ref law_kind)
  law_kind_b : Binds K law_kind_fd ["thing"] []
  law_thing : Addr
  law_thing_fd : FuncData
  law_thing_F : Fun K "_law_thing" "_law_thing" s_law_thing law_thing law_thing_fd
  law_thing_m : mg "_law_thing" = some (.ref law_thing)
  law_thing_b : Binds K law_thing_fd ["box"] []
  law_one_holds : Addr
  law_one_holds_fd : FuncData
  law_one_holds_F : Fun K "_law_one_holds" "_law_one_holds" s_law_one_holds law_one_holds law_one_holds_fd
  law_one_holds_m : mg "_law_one_holds" = some (.ref law_one_holds)
  law_one_holds_b : Binds K law_one_holds_fd ["box", "number"] []
  law : Addr
  law_fd : FuncData
  law_F : Fun K "law" "law" s_law law law_fd
  law_m : mg "law" = some (.ref law)
  law_b : Binds K law_fd ["script"] []
  z_KeyError : mg "KeyError" = none
  z_ValueError : mg "ValueError" = none
  z_abs : mg "abs" = none
  z_bool : mg "bool" = none
  z_int : mg "int" = none
  z_isinstance : mg "isinstance" = none
  z_len : mg "len" = none
  z_list : mg "list" = none
  z_range : mg "range" = none
  z_str : mg "str" = none
  z_tuple : mg "tuple" = none
  CaseError : Addr
  CaseError_m : mg "CaseError" = some (.ref CaseError)
  CaseError_E : Xc.ErX K CaseError "Exception" "Exception.__new__" []
  InvalidHeap : Addr
  InvalidHeap_m : mg "InvalidHeap" = some (.ref InvalidHeap)
  InvalidHeap_E : Xc.ErX K InvalidHeap "Exception" "Exception.__new__" ["at"]
  InvalidHeap_i : Addr
  InvalidHeap_fd : FuncData
  InvalidHeap_F : Fun K "__init__" "InvalidHeap.__init__" s_InvalidHeap_i InvalidHeap_i InvalidHeap_fd
  InvalidHeap_b : Binds K InvalidHeap_fd ["self", "at"] []
  InvalidHeap_iC : PySem.W.findIn K (.ref InvalidHeap) "__init__" = some (some (.ref InvalidHeap_i))
  InvalidHeap_tI : PySem.W.typeIn K (.ref InvalidHeap_i) = some (.type "function")
  InvalidPlan : Addr
  InvalidPlan_m : mg "InvalidPlan" = some (.ref InvalidPlan)
  InvalidPlan_E : Xc.ErX K InvalidPlan "Exception" "Exception.__new__" ["word", "at"]
  InvalidPlan_i : Addr
  InvalidPlan_fd : FuncData
  InvalidPlan_F : Fun K "__init__" "InvalidPlan.__init__" s_InvalidPlan_i InvalidPlan_i InvalidPlan_fd
  InvalidPlan_b : Binds K InvalidPlan_fd ["self", "word", "at"] []
  InvalidPlan_iC : PySem.W.findIn K (.ref InvalidPlan) "__init__" = some (some (.ref InvalidPlan_i))
  InvalidPlan_tI : PySem.W.typeIn K (.ref InvalidPlan_i) = some (.type "function")
  InvalidText : Addr
  InvalidText_m : mg "InvalidText" = some (.ref InvalidText)
  InvalidText_E : Xc.ErX K InvalidText "Exception" "Exception.__new__" ["at"]
  InvalidText_i : Addr
  InvalidText_fd : FuncData
  InvalidText_F : Fun K "__init__" "InvalidText.__init__" s_InvalidText_i InvalidText_i InvalidText_fd
  InvalidText_b : Binds K InvalidText_fd ["self", "at"] []
  InvalidText_iC : PySem.W.findIn K (.ref InvalidText) "__init__" = some (some (.ref InvalidText_i))
  InvalidText_tI : PySem.W.typeIn K (.ref InvalidText_i) = some (.type "function")
  InvalidRun : Addr
  InvalidRun_m : mg "InvalidRun" = some (.ref InvalidRun)
  InvalidRun_E : Xc.ErX K InvalidRun "Exception" "Exception.__new__" ["at"]
  InvalidRun_i : Addr
  InvalidRun_fd : FuncData
  InvalidRun_F : Fun K "__init__" "InvalidRun.__init__" s_InvalidRun_i InvalidRun_i InvalidRun_fd
  InvalidRun_b : Binds K InvalidRun_fd ["self", "at"] []
  InvalidRun_iC : PySem.W.findIn K (.ref InvalidRun) "__init__" = some (some (.ref InvalidRun_i))
  InvalidRun_tI : PySem.W.typeIn K (.ref InvalidRun_i) = some (.type "function")
  InvalidTerm : Addr
  InvalidTerm_m : mg "InvalidTerm" = some (.ref InvalidTerm)
  InvalidTerm_E : Xc.ErX K InvalidTerm "Exception" "Exception.__new__" ["place"]
  InvalidTerm_i : Addr
  InvalidTerm_fd : FuncData
  InvalidTerm_F : Fun K "__init__" "InvalidTerm.__init__" s_InvalidTerm_i InvalidTerm_i InvalidTerm_fd
  InvalidTerm_b : Binds K InvalidTerm_fd ["self", "place"] []
  InvalidTerm_iC : PySem.W.findIn K (.ref InvalidTerm) "__init__" = some (some (.ref InvalidTerm_i))
  InvalidTerm_tI : PySem.W.typeIn K (.ref InvalidTerm_i) = some (.type "function")
  InvalidCarry : Addr
  InvalidCarry_m : mg "InvalidCarry" = some (.ref InvalidCarry)
  InvalidCarry_E : Xc.ErX K InvalidCarry "Exception" "Exception.__new__" ["at"]
  InvalidCarry_i : Addr
  InvalidCarry_fd : FuncData
  InvalidCarry_F : Fun K "__init__" "InvalidCarry.__init__" s_InvalidCarry_i InvalidCarry_i InvalidCarry_fd
  InvalidCarry_b : Binds K InvalidCarry_fd ["self", "at"] []
  InvalidCarry_iC : PySem.W.findIn K (.ref InvalidCarry) "__init__" = some (some (.ref InvalidCarry_i))
  InvalidCarry_tI : PySem.W.typeIn K (.ref InvalidCarry_i) = some (.type "function")
  InvalidDeed : Addr
  InvalidDeed_m : mg "InvalidDeed" = some (.ref InvalidDeed)
  InvalidDeed_E : Xc.ErX K InvalidDeed "Exception" "Exception.__new__" ["at"]
  InvalidDeed_i : Addr
  InvalidDeed_fd : FuncData
  InvalidDeed_F : Fun K "__init__" "InvalidDeed.__init__" s_InvalidDeed_i InvalidDeed_i InvalidDeed_fd
  InvalidDeed_b : Binds K InvalidDeed_fd ["self", "at"] []
  InvalidDeed_iC : PySem.W.findIn K (.ref InvalidDeed) "__init__" = some (some (.ref InvalidDeed_i))
  InvalidDeed_tI : PySem.W.typeIn K (.ref InvalidDeed_i) = some (.type "function")
  InvalidOctets : Addr
  InvalidOctets_m : mg "InvalidOctets" = some (.ref InvalidOctets)
  InvalidOctets_E : Xc.ErX K InvalidOctets "Exception" "Exception.__new__" ["at"]
  InvalidOctets_i : Addr
  InvalidOctets_fd : FuncData
  InvalidOctets_F : Fun K "__init__" "InvalidOctets.__init__" s_InvalidOctets_i InvalidOctets_i InvalidOctets_fd
  InvalidOctets_b : Binds K InvalidOctets_fd ["self", "at"] []
  InvalidOctets_iC : PySem.W.findIn K (.ref InvalidOctets) "__init__" = some (some (.ref InvalidOctets_i))
  InvalidOctets_tI : PySem.W.typeIn K (.ref InvalidOctets_i) = some (.type "function")
  InvalidCommand : Addr
  InvalidCommand_m : mg "InvalidCommand" = some (.ref InvalidCommand)
  InvalidCommand_E : Xc.ErX K InvalidCommand "Exception" "Exception.__new__" []
  InvalidCommand_q : PySem.W.excIn K InvalidCommand Xc.tExc "Exception.__new__" = true
  InvalidSize : Addr
  InvalidSize_m : mg "InvalidSize" = some (.ref InvalidSize)
  InvalidSize_E : Xc.ErX K InvalidSize "Exception" "Exception.__new__" ["word"]
  InvalidSize_i : Addr
  InvalidSize_fd : FuncData
  InvalidSize_F : Fun K "__init__" "InvalidSize.__init__" s_InvalidSize_i InvalidSize_i InvalidSize_fd
  InvalidSize_b : Binds K InvalidSize_fd ["self", "word"] []
  InvalidSize_iC : PySem.W.findIn K (.ref InvalidSize) "__init__" = some (some (.ref InvalidSize_i))
  InvalidSize_tI : PySem.W.typeIn K (.ref InvalidSize_i) = some (.type "function")
  Refused : Addr
  Refused_m : mg "Refused" = some (.ref Refused)
  Refused_E : Xc.ErX K Refused "Exception" "Exception.__new__" ["word"]
  Refused_i : Addr
  Refused_fd : FuncData
  Refused_F : Fun K "__init__" "Refused.__init__" s_Refused_i Refused_i Refused_fd
  Refused_b : Binds K Refused_fd ["self", "word"] []
  Refused_iC : PySem.W.findIn K (.ref Refused) "__init__" = some (some (.ref Refused_i))
  Refused_tI : PySem.W.typeIn K (.ref Refused_i) = some (.type "function")
  NoName : Addr
  NoName_m : mg "NoName" = some (.ref NoName)
  NoName_E : Xc.ErX K NoName "LookupError" "LookupError.__new__" ["name"]
  NoName_i : Addr
  NoName_fd : FuncData
  NoName_F : Fun K "__init__" "NoName.__init__" s_NoName_i NoName_i NoName_fd
  NoName_b : Binds K NoName_fd ["self", "name"] []
  NoName_iC : PySem.W.findIn K (.ref NoName) "__init__" = some (some (.ref NoName_i))
  NoName_tI : PySem.W.typeIn K (.ref NoName_i) = some (.type "function")
  dig : PySem.W.nsIn K cStatics "sys.int_max_str_digits" = some none
  tab : Xc.tabB K [InvalidHeap, InvalidPlan, InvalidText, InvalidRun, InvalidTerm, InvalidCarry, InvalidDeed, InvalidOctets, InvalidSize, Refused, NoName, InvalidCommand] CaseError NoName = true
def kq_InvalidCarry_at {α : Type} : List α → List α → List α
  | [s], [a0] => [s, a0]
  | _, _ => []
theorem kc_InvalidCarry_at {K : PySem.W.Frag} {f : Addr} {fd : FuncData} (F : Fun K "__init__" "InvalidCarry.__init__" s_InvalidCarry_i f fd) : KBn K fd ["self", "at"] 1 ["at"] kq_InvalidCarry_at kq_InvalidCarry_at := by
  obtain ⟨oc, od, kV, doc, pm, an, cdv, ct, osl, rfl, lk, hcd⟩ := F.ex
  refine ⟨fun s us ws _ h1 h2 => ?_, fun {vs us zs ws} r1 r2 => ?_⟩
  · match us, ws, h1, h2 with
    | [s0], [a0], _, _ => exact .of_eq rfl
  · cases r1 with
    | nil => exact .nil
    | cons q r1 =>
      cases r1 with
      | cons _ _ => exact .nil
      | nil =>
        match r2 with
        | .nil => exact .nil
        | .cons q0 (.nil) => exact .cons q (.cons q0 (.nil))
        | .cons _ (.cons _ _) => exact .nil
def kq_InvalidDeed_at {α : Type} : List α → List α → List α
  | [s], [a0] => [s, a0]
  | _, _ => []
theorem kc_InvalidDeed_at {K : PySem.W.Frag} {f : Addr} {fd : FuncData} (F : Fun K "__init__" "InvalidDeed.__init__" s_InvalidDeed_i f fd) : KBn K fd ["self", "at"] 1 ["at"] kq_InvalidDeed_at kq_InvalidDeed_at := by
  obtain ⟨oc, od, kV, doc, pm, an, cdv, ct, osl, rfl, lk, hcd⟩ := F.ex
  refine ⟨fun s us ws _ h1 h2 => ?_, fun {vs us zs ws} r1 r2 => ?_⟩
  · match us, ws, h1, h2 with
    | [s0], [a0], _, _ => exact .of_eq rfl
  · cases r1 with
    | nil => exact .nil
    | cons q r1 =>
      cases r1 with
      | cons _ _ => exact .nil
      | nil =>
        match r2 with
        | .nil => exact .nil
        | .cons q0 (.nil) => exact .cons q (.cons q0 (.nil))
        | .cons _ (.cons _ _) => exact .nil
def kq_InvalidHeap_at {α : Type} : List α → List α → List α
  | [s], [a0] => [s, a0]
  | _, _ => []
theorem kc_InvalidHeap_at {K : PySem.W.Frag} {f : Addr} {fd : FuncData} (F : Fun K "__init__" "InvalidHeap.__init__" s_InvalidHeap_i f fd) : KBn K fd ["self", "at"] 1 ["at"] kq_InvalidHeap_at kq_InvalidHeap_at := by
  obtain ⟨oc, od, kV, doc, pm, an, cdv, ct, osl, rfl, lk, hcd⟩ := F.ex
  refine ⟨fun s us ws _ h1 h2 => ?_, fun {vs us zs ws} r1 r2 => ?_⟩
  · match us, ws, h1, h2 with
    | [s0], [a0], _, _ => exact .of_eq rfl
  · cases r1 with
    | nil => exact .nil
    | cons q r1 =>
      cases r1 with
      | cons _ _ => exact .nil
      | nil =>
        match r2 with
        | .nil => exact .nil
        | .cons q0 (.nil) => exact .cons q (.cons q0 (.nil))
        | .cons _ (.cons _ _) => exact .nil
def kq_InvalidOctets_at {α : Type} : List α → List α → List α
  | [s], [a0] => [s, a0]
  | _, _ => []
theorem kc_InvalidOctets_at {K : PySem.W.Frag} {f : Addr} {fd : FuncData} (F : Fun K "__init__" "InvalidOctets.__init__" s_InvalidOctets_i f fd) : KBn K fd ["self", "at"] 1 ["at"] kq_InvalidOctets_at kq_InvalidOctets_at := by
  obtain ⟨oc, od, kV, doc, pm, an, cdv, ct, osl, rfl, lk, hcd⟩ := F.ex
  refine ⟨fun s us ws _ h1 h2 => ?_, fun {vs us zs ws} r1 r2 => ?_⟩
  · match us, ws, h1, h2 with
    | [s0], [a0], _, _ => exact .of_eq rfl
  · cases r1 with
    | nil => exact .nil
    | cons q r1 =>
      cases r1 with
      | cons _ _ => exact .nil
      | nil =>
        match r2 with
        | .nil => exact .nil
        | .cons q0 (.nil) => exact .cons q (.cons q0 (.nil))
        | .cons _ (.cons _ _) => exact .nil
def kq_InvalidPlan_at_word {α : Type} : List α → List α → List α
  | [s], [a0, a1] => [s, a1, a0]
  | _, _ => []
theorem kc_InvalidPlan_at_word {K : PySem.W.Frag} {f : Addr} {fd : FuncData} (F : Fun K "__init__" "InvalidPlan.__init__" s_InvalidPlan_i f fd) : KBn K fd ["self", "word", "at"] 1 ["at", "word"] kq_InvalidPlan_at_word kq_InvalidPlan_at_word := by
  obtain ⟨oc, od, kV, doc, pm, an, cdv, ct, osl, rfl, lk, hcd⟩ := F.ex
  refine ⟨fun s us ws _ h1 h2 => ?_, fun {vs us zs ws} r1 r2 => ?_⟩
  · match us, ws, h1, h2 with
    | [s0], [a0, a1], _, _ => exact .of_eq rfl
  · cases r1 with
    | nil => exact .nil
    | cons q r1 =>
      cases r1 with
      | cons _ _ => exact .nil
      | nil =>
        match r2 with
        | .nil => exact .nil
        | .cons _ (.nil) => exact .nil
        | .cons q0 (.cons q1 (.nil)) => exact .cons q (.cons q1 (.cons q0 (.nil)))
        | .cons _ (.cons _ (.cons _ _)) => exact .nil
def kq_InvalidRun_at {α : Type} : List α → List α → List α
  | [s], [a0] => [s, a0]
  | _, _ => []
theorem kc_InvalidRun_at {K : PySem.W.Frag} {f : Addr} {fd : FuncData} (F : Fun K "__init__" "InvalidRun.__init__" s_InvalidRun_i f fd) : KBn K fd ["self", "at"] 1 ["at"] kq_InvalidRun_at kq_InvalidRun_at := by
  obtain ⟨oc, od, kV, doc, pm, an, cdv, ct, osl, rfl, lk, hcd⟩ := F.ex
  refine ⟨fun s us ws _ h1 h2 => ?_, fun {vs us zs ws} r1 r2 => ?_⟩
  · match us, ws, h1, h2 with
    | [s0], [a0], _, _ => exact .of_eq rfl
  · cases r1 with
    | nil => exact .nil
    | cons q r1 =>
      cases r1 with
      | cons _ _ => exact .nil
      | nil =>
        match r2 with
        | .nil => exact .nil
        | .cons q0 (.nil) => exact .cons q (.cons q0 (.nil))
        | .cons _ (.cons _ _) => exact .nil
def kq_InvalidSize_word {α : Type} : List α → List α → List α
  | [s], [a0] => [s, a0]
  | _, _ => []
theorem kc_InvalidSize_word {K : PySem.W.Frag} {f : Addr} {fd : FuncData} (F : Fun K "__init__" "InvalidSize.__init__" s_InvalidSize_i f fd) : KBn K fd ["self", "word"] 1 ["word"] kq_InvalidSize_word kq_InvalidSize_word := by
  obtain ⟨oc, od, kV, doc, pm, an, cdv, ct, osl, rfl, lk, hcd⟩ := F.ex
  refine ⟨fun s us ws _ h1 h2 => ?_, fun {vs us zs ws} r1 r2 => ?_⟩
  · match us, ws, h1, h2 with
    | [s0], [a0], _, _ => exact .of_eq rfl
  · cases r1 with
    | nil => exact .nil
    | cons q r1 =>
      cases r1 with
      | cons _ _ => exact .nil
      | nil =>
        match r2 with
        | .nil => exact .nil
        | .cons q0 (.nil) => exact .cons q (.cons q0 (.nil))
        | .cons _ (.cons _ _) => exact .nil
def kq_InvalidTerm_place {α : Type} : List α → List α → List α
  | [s], [a0] => [s, a0]
  | _, _ => []
theorem kc_InvalidTerm_place {K : PySem.W.Frag} {f : Addr} {fd : FuncData} (F : Fun K "__init__" "InvalidTerm.__init__" s_InvalidTerm_i f fd) : KBn K fd ["self", "place"] 1 ["place"] kq_InvalidTerm_place kq_InvalidTerm_place := by
  obtain ⟨oc, od, kV, doc, pm, an, cdv, ct, osl, rfl, lk, hcd⟩ := F.ex
  refine ⟨fun s us ws _ h1 h2 => ?_, fun {vs us zs ws} r1 r2 => ?_⟩
  · match us, ws, h1, h2 with
    | [s0], [a0], _, _ => exact .of_eq rfl
  · cases r1 with
    | nil => exact .nil
    | cons q r1 =>
      cases r1 with
      | cons _ _ => exact .nil
      | nil =>
        match r2 with
        | .nil => exact .nil
        | .cons q0 (.nil) => exact .cons q (.cons q0 (.nil))
        | .cons _ (.cons _ _) => exact .nil
def kq_InvalidText_at {α : Type} : List α → List α → List α
  | [s], [a0] => [s, a0]
  | _, _ => []
theorem kc_InvalidText_at {K : PySem.W.Frag} {f : Addr} {fd : FuncData} (F : Fun K "__init__" "InvalidText.__init__" s_InvalidText_i f fd) : KBn K fd ["self", "at"] 1 ["at"] kq_InvalidText_at kq_InvalidText_at := by
  obtain ⟨oc, od, kV, doc, pm, an, cdv, ct, osl, rfl, lk, hcd⟩ := F.ex
  refine ⟨fun s us ws _ h1 h2 => ?_, fun {vs us zs ws} r1 r2 => ?_⟩
  · match us, ws, h1, h2 with
    | [s0], [a0], _, _ => exact .of_eq rfl
  · cases r1 with
    | nil => exact .nil
    | cons q r1 =>
      cases r1 with
      | cons _ _ => exact .nil
      | nil =>
        match r2 with
        | .nil => exact .nil
        | .cons q0 (.nil) => exact .cons q (.cons q0 (.nil))
        | .cons _ (.cons _ _) => exact .nil
def kq_NoName_name {α : Type} : List α → List α → List α
  | [s], [a0] => [s, a0]
  | _, _ => []
theorem kc_NoName_name {K : PySem.W.Frag} {f : Addr} {fd : FuncData} (F : Fun K "__init__" "NoName.__init__" s_NoName_i f fd) : KBn K fd ["self", "name"] 1 ["name"] kq_NoName_name kq_NoName_name := by
  obtain ⟨oc, od, kV, doc, pm, an, cdv, ct, osl, rfl, lk, hcd⟩ := F.ex
  refine ⟨fun s us ws _ h1 h2 => ?_, fun {vs us zs ws} r1 r2 => ?_⟩
  · match us, ws, h1, h2 with
    | [s0], [a0], _, _ => exact .of_eq rfl
  · cases r1 with
    | nil => exact .nil
    | cons q r1 =>
      cases r1 with
      | cons _ _ => exact .nil
      | nil =>
        match r2 with
        | .nil => exact .nil
        | .cons q0 (.nil) => exact .cons q (.cons q0 (.nil))
        | .cons _ (.cons _ _) => exact .nil
def kq_Refused_word {α : Type} : List α → List α → List α
  | [s], [a0] => [s, a0]
  | _, _ => []
theorem kc_Refused_word {K : PySem.W.Frag} {f : Addr} {fd : FuncData} (F : Fun K "__init__" "Refused.__init__" s_Refused_i f fd) : KBn K fd ["self", "word"] 1 ["word"] kq_Refused_word kq_Refused_word := by
  obtain ⟨oc, od, kV, doc, pm, an, cdv, ct, osl, rfl, lk, hcd⟩ := F.ex
  refine ⟨fun s us ws _ h1 h2 => ?_, fun {vs us zs ws} r1 r2 => ?_⟩
  · match us, ws, h1, h2 with
    | [s0], [a0], _, _ => exact .of_eq rfl
  · cases r1 with
    | nil => exact .nil
    | cons q r1 =>
      cases r1 with
      | cons _ _ => exact .nil
      | nil =>
        match r2 with
        | .nil => exact .nil
        | .cons q0 (.nil) => exact .cons q (.cons q0 (.nil))
        | .cons _ (.cons _ _) => exact .nil
section
variable {P : Program} {w : World} {K : PySem.W.Frag} {mg : Str → Option Value} {base : Heap}
theorem ok_InvalidHeap_i (T : Tx K mg) : FnOk P w K mg base CX0 1 T.InvalidHeap_i T.InvalidHeap_fd ["self", "at"] (Xc.spI T.InvalidHeap "at") := by
  refine T.InvalidHeap_F.ok sc_InvalidHeap_i (fun vs H Q E h => ?_) (fun cdv A outer s H vs Q E hr h => ?_)
  · obtain ⟨a, v, rfl, _⟩ := h
    rfl
  · obtain ⟨a, v, rfl, ha, k⟩ := h
    exact ⟨_, pss_one (Xc.ps_st (pv 0) (pv 1)), _, rfl, _, rfl, a, _, _, _, rfl, T.InvalidHeap_E.c, T.InvalidHeap_E.no _ (by simp), .inl ⟨ha, k⟩⟩
theorem ok_InvalidPlan_i (T : Tx K mg) : FnOk P w K mg base CX0 1 T.InvalidPlan_i T.InvalidPlan_fd ["self", "word", "at"] (Xc.spI2 T.InvalidPlan "word" "at") := by
  refine T.InvalidPlan_F.ok sc_InvalidPlan_i (fun vs H Q E h => ?_) (fun cdv A outer s H vs Q E hr h => ?_)
  · obtain ⟨a, v, u, rfl, _⟩ := h
    rfl
  · obtain ⟨a, v, u, rfl, ha, k⟩ := h
    exact ⟨_, pss_cons (Xc.ps_st (pv 0) (pv 1)) (pss_one (Xc.ps_st (pv 0) (pv 2))), _, rfl, _, rfl, a, _, _, _, rfl, T.InvalidPlan_E.c, T.InvalidPlan_E.no _ (by simp), .inl ⟨ha, fun dx nd ne => ⟨_, rfl, _, rfl, a, _, _, _, rfl, T.InvalidPlan_E.c, T.InvalidPlan_E.no _ (by simp), .inr ⟨dx, _, upd_same, by rw [upd_ne ne, upd_same], by simp, k dx nd ne⟩⟩⟩⟩
theorem ok_InvalidText_i (T : Tx K mg) : FnOk P w K mg base CX0 1 T.InvalidText_i T.InvalidText_fd ["self", "at"] (Xc.spI T.InvalidText "at") := by
  refine T.InvalidText_F.ok sc_InvalidText_i (fun vs H Q E h => ?_) (fun cdv A outer s H vs Q E hr h => ?_)
  · obtain ⟨a, v, rfl, _⟩ := h
    rfl
  · obtain ⟨a, v, rfl, ha, k⟩ := h
    exact ⟨_, pss_one (Xc.ps_st (pv 0) (pv 1)), _, rfl, _, rfl, a, _, _, _, rfl, T.InvalidText_E.c, T.InvalidText_E.no _ (by simp), .inl ⟨ha, k⟩⟩
theorem ok_InvalidRun_i (T : Tx K mg) : FnOk P w K mg base CX0 1 T.InvalidRun_i T.InvalidRun_fd ["self", "at"] (Xc.spI T.InvalidRun "at") := by
  refine T.InvalidRun_F.ok sc_InvalidRun_i (fun vs H Q E h => ?_) (fun cdv A outer s H vs Q E hr h => ?_)
  · obtain ⟨a, v, rfl, _⟩ := h
    rfl
  · obtain ⟨a, v, rfl, ha, k⟩ := h
    exact ⟨_, pss_one (Xc.ps_st (pv 0) (pv 1)), _, rfl, _, rfl, a, _, _, _, rfl, T.InvalidRun_E.c, T.InvalidRun_E.no _ (by simp), .inl ⟨ha, k⟩⟩
theorem ok_InvalidTerm_i (T : Tx K mg) : FnOk P w K mg base CX0 1 T.InvalidTerm_i T.InvalidTerm_fd ["self", "place"] (Xc.spI T.InvalidTerm "place") := by
  refine T.InvalidTerm_F.ok sc_InvalidTerm_i (fun vs H Q E h => ?_) (fun cdv A outer s H vs Q E hr h => ?_)
  · obtain ⟨a, v, rfl, _⟩ := h
    rfl
  · obtain ⟨a, v, rfl, ha, k⟩ := h
    exact ⟨_, pss_one (Xc.ps_st (pv 0) (pv 1)), _, rfl, _, rfl, a, _, _, _, rfl, T.InvalidTerm_E.c, T.InvalidTerm_E.no _ (by simp), .inl ⟨ha, k⟩⟩
theorem ok_InvalidCarry_i (T : Tx K mg) : FnOk P w K mg base CX0 1 T.InvalidCarry_i T.InvalidCarry_fd ["self", "at"] (Xc.spI T.InvalidCarry "at") := by
  refine T.InvalidCarry_F.ok sc_InvalidCarry_i (fun vs H Q E h => ?_) (fun cdv A outer s H vs Q E hr h => ?_)
  · obtain ⟨a, v, rfl, _⟩ := h
    rfl
  · obtain ⟨a, v, rfl, ha, k⟩ := h
    exact ⟨_, pss_one (Xc.ps_st (pv 0) (pv 1)), _, rfl, _, rfl, a, _, _, _, rfl, T.InvalidCarry_E.c, T.InvalidCarry_E.no _ (by simp), .inl ⟨ha, k⟩⟩
theorem ok_InvalidDeed_i (T : Tx K mg) : FnOk P w K mg base CX0 1 T.InvalidDeed_i T.InvalidDeed_fd ["self", "at"] (Xc.spI T.InvalidDeed "at") := by
  refine T.InvalidDeed_F.ok sc_InvalidDeed_i (fun vs H Q E h => ?_) (fun cdv A outer s H vs Q E hr h => ?_)
  · obtain ⟨a, v, rfl, _⟩ := h
    rfl
  · obtain ⟨a, v, rfl, ha, k⟩ := h
    exact ⟨_, pss_one (Xc.ps_st (pv 0) (pv 1)), _, rfl, _, rfl, a, _, _, _, rfl, T.InvalidDeed_E.c, T.InvalidDeed_E.no _ (by simp), .inl ⟨ha, k⟩⟩
theorem ok_InvalidOctets_i (T : Tx K mg) : FnOk P w K mg base CX0 1 T.InvalidOctets_i T.InvalidOctets_fd ["self", "at"] (Xc.spI T.InvalidOctets "at") := by
  refine T.InvalidOctets_F.ok sc_InvalidOctets_i (fun vs H Q E h => ?_) (fun cdv A outer s H vs Q E hr h => ?_)
  · obtain ⟨a, v, rfl, _⟩ := h
    rfl
  · obtain ⟨a, v, rfl, ha, k⟩ := h
    exact ⟨_, pss_one (Xc.ps_st (pv 0) (pv 1)), _, rfl, _, rfl, a, _, _, _, rfl, T.InvalidOctets_E.c, T.InvalidOctets_E.no _ (by simp), .inl ⟨ha, k⟩⟩
theorem ok_InvalidSize_i (T : Tx K mg) : FnOk P w K mg base CX0 1 T.InvalidSize_i T.InvalidSize_fd ["self", "word"] (Xc.spI T.InvalidSize "word") := by
  refine T.InvalidSize_F.ok sc_InvalidSize_i (fun vs H Q E h => ?_) (fun cdv A outer s H vs Q E hr h => ?_)
  · obtain ⟨a, v, rfl, _⟩ := h
    rfl
  · obtain ⟨a, v, rfl, ha, k⟩ := h
    exact ⟨_, pss_one (Xc.ps_st (pv 0) (pv 1)), _, rfl, _, rfl, a, _, _, _, rfl, T.InvalidSize_E.c, T.InvalidSize_E.no _ (by simp), .inl ⟨ha, k⟩⟩
theorem ok_Refused_i (T : Tx K mg) : FnOk P w K mg base CX0 1 T.Refused_i T.Refused_fd ["self", "word"] (Xc.spI T.Refused "word") := by
  refine T.Refused_F.ok sc_Refused_i (fun vs H Q E h => ?_) (fun cdv A outer s H vs Q E hr h => ?_)
  · obtain ⟨a, v, rfl, _⟩ := h
    rfl
  · obtain ⟨a, v, rfl, ha, k⟩ := h
    exact ⟨_, pss_one (Xc.ps_st (pv 0) (pv 1)), _, rfl, _, rfl, a, _, _, _, rfl, T.Refused_E.c, T.Refused_E.no _ (by simp), .inl ⟨ha, k⟩⟩
theorem ok_NoName_i (T : Tx K mg) : FnOk P w K mg base CX0 1 T.NoName_i T.NoName_fd ["self", "name"] (Xc.spI T.NoName "name") := by
  refine T.NoName_F.ok sc_NoName_i (fun vs H Q E h => ?_) (fun cdv A outer s H vs Q E hr h => ?_)
  · obtain ⟨a, v, rfl, _⟩ := h
    rfl
  · obtain ⟨a, v, rfl, ha, k⟩ := h
    exact ⟨_, pss_one (Xc.ps_st (pv 0) (pv 1)), _, rfl, _, rfl, a, _, _, _, rfl, T.NoName_E.c, T.NoName_E.no _ (by simp), .inl ⟨ha, k⟩⟩
def cs (T : Tx K mg) : List Addr := [T.InvalidHeap, T.InvalidPlan, T.InvalidText, T.InvalidRun, T.InvalidTerm, T.InvalidCarry, T.InvalidDeed, T.InvalidOctets, T.InvalidSize, T.Refused, T.NoName, T.InvalidCommand]
def cat (T : Tx K mg) (n : Nat) : Addr := (cs T).getD n 0
def flds (n : Nat) (x y : V) : List (Str × V) := match n with
  | 1 => [("at", y), ("word", x)]
  | 4 => [("place", x)]
  | 8 => [("word", x)]
  | 9 => [("word", x)]
  | 10 => [("name", x)]
  | 11 => []
  | _ => [("at", x)]
/-- at a: the error with the number n, made of these -/
def ErA (T : Tx K mg) (H : Hp) (a : Addr) (n : Nat) (x y : V) : Prop := Xc.ErV H a (cat T n) ∧ (n ≠ 11 → Xc.FldV H a (cat T n) (flds n x y))
theorem ErA.ex {T : Tx K mg} {H H' : Hp} {a : Addr} {n : Nat} {x y : V} (h : ErA T H a n x y) (e : Ex H H') : ErA T H' a n x y := ⟨h.1.ex e, fun q => (h.2 q).ex e⟩
theorem ifI {A B : Prop} {n m : Int} (h1 : n = m → A) (h2 : n ≠ m → B) : if decide (V.int n = V.int m) = true then A else B := by
  by_cases h : n = m
  · rw [if_pos (by rw [h]; simp)]
    exact h1 h
  · rw [if_neg (by simp [h])]
    exact h2 h

/-! ### made by position, by names -/
def spMade (T : Tx K mg) : Sp := fun vs H Q _ => ∃ (n : Nat) (x y : V), vs = [.int n, x, y] ∧ n < 12 ∧ ∀ a H', Ex H H' → H a = none → ErA T H' a n x y → Q (.ref a) H'
theorem made_len {T : Tx K mg} (vs : List V) (H : Hp) (Q : VK) (E : XK) (h : spMade T vs H Q E) : vs.length = 3 := by
  obtain ⟨n, x, y, rfl, _⟩ := h
  rfl
theorem ok_law_made (T : Tx K mg) : FnOk P w K mg base CX0 3 T.law_made T.law_made_fd ["number", "thing", "other"] (spMade T) := by
  refine T.law_made_F.ok sc_law_made made_len (fun cdv A outer s H vs Q E hr h => ?_)
  obtain ⟨n, x, y, rfl, hn, k⟩ := h
  refine ⟨_, (pss_cons (ps_if (pt_cmpR op_eq (pv 0) pe_int (nomark _)) (pss_one (ps_ret (Xc.pe_er PySem.F.excBase_Exception T.InvalidHeap_E.c T.InvalidHeap_iC T.InvalidHeap_tI (ok_InvalidHeap_i T) (hr.mono (by decide)) T.InvalidHeap_b .nil pass0 (by rfl) T.InvalidHeap_m (pa_cons (pv 1) pa_nil)))) pss_nil)
      (pss_cons (ps_if (pt_cmpR op_eq (pv 0) pe_int (nomark _)) (pss_one (ps_ret (Xc.pe_er PySem.F.excBase_Exception T.InvalidPlan_E.c T.InvalidPlan_iC T.InvalidPlan_tI (ok_InvalidPlan_i T) (hr.mono (by decide)) T.InvalidPlan_b .nil pass0 (by rfl) T.InvalidPlan_m (pa_cons (pv 1) (pa_cons (pv 2) pa_nil))))) pss_nil)
      (pss_cons (ps_if (pt_cmpR op_eq (pv 0) pe_int (nomark _)) (pss_one (ps_ret (Xc.pe_er PySem.F.excBase_Exception T.InvalidText_E.c T.InvalidText_iC T.InvalidText_tI (ok_InvalidText_i T) (hr.mono (by decide)) T.InvalidText_b .nil pass0 (by rfl) T.InvalidText_m (pa_cons (pv 1) pa_nil)))) pss_nil)
      (pss_cons (ps_if (pt_cmpR op_eq (pv 0) pe_int (nomark _)) (pss_one (ps_ret (Xc.pe_er PySem.F.excBase_Exception T.InvalidRun_E.c T.InvalidRun_iC T.InvalidRun_tI (ok_InvalidRun_i T) (hr.mono (by decide)) T.InvalidRun_b .nil pass0 (by rfl) T.InvalidRun_m (pa_cons (pv 1) pa_nil)))) pss_nil)
      (pss_cons (ps_if (pt_cmpR op_eq (pv 0) pe_int (nomark _)) (pss_one (ps_ret (Xc.pe_er PySem.F.excBase_Exception T.InvalidTerm_E.c T.InvalidTerm_iC T.InvalidTerm_tI (ok_InvalidTerm_i T) (hr.mono (by decide)) T.InvalidTerm_b .nil pass0 (by rfl) T.InvalidTerm_m (pa_cons (pv 1) pa_nil)))) pss_nil)
      (pss_cons (ps_if (pt_cmpR op_eq (pv 0) pe_int (nomark _)) (pss_one (ps_ret (Xc.pe_er PySem.F.excBase_Exception T.InvalidCarry_E.c T.InvalidCarry_iC T.InvalidCarry_tI (ok_InvalidCarry_i T) (hr.mono (by decide)) T.InvalidCarry_b .nil pass0 (by rfl) T.InvalidCarry_m (pa_cons (pv 1) pa_nil)))) pss_nil)
      (pss_cons (ps_if (pt_cmpR op_eq (pv 0) pe_int (nomark _)) (pss_one (ps_ret (Xc.pe_er PySem.F.excBase_Exception T.InvalidDeed_E.c T.InvalidDeed_iC T.InvalidDeed_tI (ok_InvalidDeed_i T) (hr.mono (by decide)) T.InvalidDeed_b .nil pass0 (by rfl) T.InvalidDeed_m (pa_cons (pv 1) pa_nil)))) pss_nil)
      (pss_cons (ps_if (pt_cmpR op_eq (pv 0) pe_int (nomark _)) (pss_one (ps_ret (Xc.pe_er PySem.F.excBase_Exception T.InvalidOctets_E.c T.InvalidOctets_iC T.InvalidOctets_tI (ok_InvalidOctets_i T) (hr.mono (by decide)) T.InvalidOctets_b .nil pass0 (by rfl) T.InvalidOctets_m (pa_cons (pv 1) pa_nil)))) pss_nil)
      (pss_cons (ps_if (pt_cmpR op_eq (pv 0) pe_int (nomark _)) (pss_one (ps_ret (Xc.pe_er PySem.F.excBase_Exception T.InvalidSize_E.c T.InvalidSize_iC T.InvalidSize_tI (ok_InvalidSize_i T) (hr.mono (by decide)) T.InvalidSize_b .nil pass0 (by rfl) T.InvalidSize_m (pa_cons (pv 1) pa_nil)))) pss_nil)
      (pss_cons (ps_if (pt_cmpR op_eq (pv 0) pe_int (nomark _)) (pss_one (ps_ret (Xc.pe_er PySem.F.excBase_Exception T.Refused_E.c T.Refused_iC T.Refused_tI (ok_Refused_i T) (hr.mono (by decide)) T.Refused_b .nil pass0 (by rfl) T.Refused_m (pa_cons (pv 1) pa_nil)))) pss_nil)
      (pss_cons (ps_if (pt_cmpR op_eq (pv 0) pe_int (nomark _)) (pss_one (ps_ret (Xc.pe_er PySem.F.excBase_LookupError T.NoName_E.c T.NoName_iC T.NoName_tI (ok_NoName_i T) (hr.mono (by decide)) T.NoName_b .nil pass0 (by rfl) T.NoName_m (pa_cons (pv 1) pa_nil)))) pss_nil)
      (pss_one (ps_ret (Xc.pe_exc0 PySem.F.excBase_Exception T.InvalidCommand_q T.InvalidCommand_m T.InvalidCommand_E.c.kC (by rfl))))))))))))))), ?_⟩
  refine ⟨_, rfl, rfl, _, rfl, ifI (fun e => ?_) fun e0 => ⟨_, rfl, rfl, _, rfl, ifI (fun e => ?_) fun e1 => ⟨_, rfl, rfl, _, rfl, ifI (fun e => ?_) fun e2 => ⟨_, rfl, rfl, _, rfl, ifI (fun e => ?_) fun e3 => ⟨_, rfl, rfl, _, rfl, ifI (fun e => ?_) fun e4 => ⟨_, rfl, rfl, _, rfl, ifI (fun e => ?_) fun e5 =>
    ⟨_, rfl, rfl, _, rfl, ifI (fun e => ?_) fun e6 => ⟨_, rfl, rfl, _, rfl, ifI (fun e => ?_) fun e7 => ⟨_, rfl, rfl, _, rfl, ifI (fun e => ?_) fun e8 => ⟨_, rfl, rfl, _, rfl, ifI (fun e => ?_) fun e9 => ⟨_, rfl, rfl, _, rfl, ifI (fun e => ?_) fun e10 => ?_⟩⟩⟩⟩⟩⟩⟩⟩⟩⟩⟩
  · obtain rfl : n = 0 := by omega
    exact ⟨_, rfl, by simp, fun a na => Xc.ob1 (fun a H2 e n f => k a H2 e n ⟨f.er, fun _ => f⟩) a na⟩
  · obtain rfl : n = 1 := by omega
    exact ⟨_, rfl, _, rfl, by simp, fun a na => Xc.ob2 (fun a H2 e n f => k a H2 e n ⟨f.er, fun _ => f⟩) a na⟩
  · obtain rfl : n = 2 := by omega
    exact ⟨_, rfl, by simp, fun a na => Xc.ob1 (fun a H2 e n f => k a H2 e n ⟨f.er, fun _ => f⟩) a na⟩
  · obtain rfl : n = 3 := by omega
    exact ⟨_, rfl, by simp, fun a na => Xc.ob1 (fun a H2 e n f => k a H2 e n ⟨f.er, fun _ => f⟩) a na⟩
  · obtain rfl : n = 4 := by omega
    exact ⟨_, rfl, by simp, fun a na => Xc.ob1 (fun a H2 e n f => k a H2 e n ⟨f.er, fun _ => f⟩) a na⟩
  · obtain rfl : n = 5 := by omega
    exact ⟨_, rfl, by simp, fun a na => Xc.ob1 (fun a H2 e n f => k a H2 e n ⟨f.er, fun _ => f⟩) a na⟩
  · obtain rfl : n = 6 := by omega
    exact ⟨_, rfl, by simp, fun a na => Xc.ob1 (fun a H2 e n f => k a H2 e n ⟨f.er, fun _ => f⟩) a na⟩
  · obtain rfl : n = 7 := by omega
    exact ⟨_, rfl, by simp, fun a na => Xc.ob1 (fun a H2 e n f => k a H2 e n ⟨f.er, fun _ => f⟩) a na⟩
  · obtain rfl : n = 8 := by omega
    exact ⟨_, rfl, by simp, fun a na => Xc.ob1 (fun a H2 e n f => k a H2 e n ⟨f.er, fun _ => f⟩) a na⟩
  · obtain rfl : n = 9 := by omega
    exact ⟨_, rfl, by simp, fun a na => Xc.ob1 (fun a H2 e n f => k a H2 e n ⟨f.er, fun _ => f⟩) a na⟩
  · obtain rfl : n = 10 := by omega
    exact ⟨_, rfl, by simp, fun a na => Xc.ob1 (fun a H2 e n f => k a H2 e n ⟨f.er, fun _ => f⟩) a na⟩
  · obtain rfl : n = 11 := by omega
    exact fun a na => Xc.ob0 (fun a H2 e n f => k a H2 e n ⟨f, fun q => absurd rfl q⟩) a na
theorem ok_law_named (T : Tx K mg) : FnOk P w K mg base CX0 3 T.law_named T.law_named_fd ["number", "thing", "other"] (spMade T) := by
  refine T.law_named_F.ok sc_law_named made_len (fun cdv A outer s H vs Q E hr h => ?_)
  obtain ⟨n, x, y, rfl, hn, k⟩ := h
  refine ⟨_, (pss_cons (ps_if (pt_cmpR op_eq (pv 0) pe_int (nomark _)) (pss_one (ps_ret (Xc.pe_erK PySem.F.excBase_Exception T.InvalidHeap_E.c T.InvalidHeap_iC T.InvalidHeap_tI (ok_InvalidHeap_i T) (hr.mono (by decide)) (kc_InvalidHeap_at T.InvalidHeap_F) pass0 (by rfl) T.InvalidHeap_m (pk_cons (pv 1) pk_nil)))) pss_nil)
      (pss_cons (ps_if (pt_cmpR op_eq (pv 0) pe_int (nomark _)) (pss_one (ps_ret (Xc.pe_erK PySem.F.excBase_Exception T.InvalidPlan_E.c T.InvalidPlan_iC T.InvalidPlan_tI (ok_InvalidPlan_i T) (hr.mono (by decide)) (kc_InvalidPlan_at_word T.InvalidPlan_F) pass0 (by rfl) T.InvalidPlan_m (pk_cons (pv 2) (pk_cons (pv 1) pk_nil))))) pss_nil)
      (pss_cons (ps_if (pt_cmpR op_eq (pv 0) pe_int (nomark _)) (pss_one (ps_ret (Xc.pe_erK PySem.F.excBase_Exception T.InvalidText_E.c T.InvalidText_iC T.InvalidText_tI (ok_InvalidText_i T) (hr.mono (by decide)) (kc_InvalidText_at T.InvalidText_F) pass0 (by rfl) T.InvalidText_m (pk_cons (pv 1) pk_nil)))) pss_nil)
      (pss_cons (ps_if (pt_cmpR op_eq (pv 0) pe_int (nomark _)) (pss_one (ps_ret (Xc.pe_erK PySem.F.excBase_Exception T.InvalidRun_E.c T.InvalidRun_iC T.InvalidRun_tI (ok_InvalidRun_i T) (hr.mono (by decide)) (kc_InvalidRun_at T.InvalidRun_F) pass0 (by rfl) T.InvalidRun_m (pk_cons (pv 1) pk_nil)))) pss_nil)
      (pss_cons (ps_if (pt_cmpR op_eq (pv 0) pe_int (nomark _)) (pss_one (ps_ret (Xc.pe_erK PySem.F.excBase_Exception T.InvalidTerm_E.c T.InvalidTerm_iC T.InvalidTerm_tI (ok_InvalidTerm_i T) (hr.mono (by decide)) (kc_InvalidTerm_place T.InvalidTerm_F) pass0 (by rfl) T.InvalidTerm_m (pk_cons (pv 1) pk_nil)))) pss_nil)
      (pss_cons (ps_if (pt_cmpR op_eq (pv 0) pe_int (nomark _)) (pss_one (ps_ret (Xc.pe_erK PySem.F.excBase_Exception T.InvalidCarry_E.c T.InvalidCarry_iC T.InvalidCarry_tI (ok_InvalidCarry_i T) (hr.mono (by decide)) (kc_InvalidCarry_at T.InvalidCarry_F) pass0 (by rfl) T.InvalidCarry_m (pk_cons (pv 1) pk_nil)))) pss_nil)
      (pss_cons (ps_if (pt_cmpR op_eq (pv 0) pe_int (nomark _)) (pss_one (ps_ret (Xc.pe_erK PySem.F.excBase_Exception T.InvalidDeed_E.c T.InvalidDeed_iC T.InvalidDeed_tI (ok_InvalidDeed_i T) (hr.mono (by decide)) (kc_InvalidDeed_at T.InvalidDeed_F) pass0 (by rfl) T.InvalidDeed_m (pk_cons (pv 1) pk_nil)))) pss_nil)
      (pss_cons (ps_if (pt_cmpR op_eq (pv 0) pe_int (nomark _)) (pss_one (ps_ret (Xc.pe_erK PySem.F.excBase_Exception T.InvalidOctets_E.c T.InvalidOctets_iC T.InvalidOctets_tI (ok_InvalidOctets_i T) (hr.mono (by decide)) (kc_InvalidOctets_at T.InvalidOctets_F) pass0 (by rfl) T.InvalidOctets_m (pk_cons (pv 1) pk_nil)))) pss_nil)
      (pss_cons (ps_if (pt_cmpR op_eq (pv 0) pe_int (nomark _)) (pss_one (ps_ret (Xc.pe_erK PySem.F.excBase_Exception T.InvalidSize_E.c T.InvalidSize_iC T.InvalidSize_tI (ok_InvalidSize_i T) (hr.mono (by decide)) (kc_InvalidSize_word T.InvalidSize_F) pass0 (by rfl) T.InvalidSize_m (pk_cons (pv 1) pk_nil)))) pss_nil)
      (pss_cons (ps_if (pt_cmpR op_eq (pv 0) pe_int (nomark _)) (pss_one (ps_ret (Xc.pe_erK PySem.F.excBase_Exception T.Refused_E.c T.Refused_iC T.Refused_tI (ok_Refused_i T) (hr.mono (by decide)) (kc_Refused_word T.Refused_F) pass0 (by rfl) T.Refused_m (pk_cons (pv 1) pk_nil)))) pss_nil)
      (pss_cons (ps_if (pt_cmpR op_eq (pv 0) pe_int (nomark _)) (pss_one (ps_ret (Xc.pe_erK PySem.F.excBase_LookupError T.NoName_E.c T.NoName_iC T.NoName_tI (ok_NoName_i T) (hr.mono (by decide)) (kc_NoName_name T.NoName_F) pass0 (by rfl) T.NoName_m (pk_cons (pv 1) pk_nil)))) pss_nil)
      (pss_one (ps_ret (Xc.pe_exc0 PySem.F.excBase_Exception T.InvalidCommand_q T.InvalidCommand_m T.InvalidCommand_E.c.kC (by rfl))))))))))))))), ?_⟩
  refine ⟨_, rfl, rfl, _, rfl, ifI (fun e => ?_) fun e0 => ⟨_, rfl, rfl, _, rfl, ifI (fun e => ?_) fun e1 => ⟨_, rfl, rfl, _, rfl, ifI (fun e => ?_) fun e2 => ⟨_, rfl, rfl, _, rfl, ifI (fun e => ?_) fun e3 => ⟨_, rfl, rfl, _, rfl, ifI (fun e => ?_) fun e4 => ⟨_, rfl, rfl, _, rfl, ifI (fun e => ?_) fun e5 =>
    ⟨_, rfl, rfl, _, rfl, ifI (fun e => ?_) fun e6 => ⟨_, rfl, rfl, _, rfl, ifI (fun e => ?_) fun e7 => ⟨_, rfl, rfl, _, rfl, ifI (fun e => ?_) fun e8 => ⟨_, rfl, rfl, _, rfl, ifI (fun e => ?_) fun e9 => ⟨_, rfl, rfl, _, rfl, ifI (fun e => ?_) fun e10 => ?_⟩⟩⟩⟩⟩⟩⟩⟩⟩⟩⟩
  · obtain rfl : n = 0 := by omega
    exact ⟨_, rfl, rfl, fun a na => Xc.ob1 (fun a H2 e n f => k a H2 e n ⟨f.er, fun _ => f⟩) a na⟩
  · obtain rfl : n = 1 := by omega
    exact ⟨_, rfl, _, rfl, rfl, fun a na => Xc.ob2 (fun a H2 e n f => k a H2 e n ⟨f.er, fun _ => f⟩) a na⟩
  · obtain rfl : n = 2 := by omega
    exact ⟨_, rfl, rfl, fun a na => Xc.ob1 (fun a H2 e n f => k a H2 e n ⟨f.er, fun _ => f⟩) a na⟩
  · obtain rfl : n = 3 := by omega
    exact ⟨_, rfl, rfl, fun a na => Xc.ob1 (fun a H2 e n f => k a H2 e n ⟨f.er, fun _ => f⟩) a na⟩
  · obtain rfl : n = 4 := by omega
    exact ⟨_, rfl, rfl, fun a na => Xc.ob1 (fun a H2 e n f => k a H2 e n ⟨f.er, fun _ => f⟩) a na⟩
  · obtain rfl : n = 5 := by omega
    exact ⟨_, rfl, rfl, fun a na => Xc.ob1 (fun a H2 e n f => k a H2 e n ⟨f.er, fun _ => f⟩) a na⟩
  · obtain rfl : n = 6 := by omega
    exact ⟨_, rfl, rfl, fun a na => Xc.ob1 (fun a H2 e n f => k a H2 e n ⟨f.er, fun _ => f⟩) a na⟩
  · obtain rfl : n = 7 := by omega
    exact ⟨_, rfl, rfl, fun a na => Xc.ob1 (fun a H2 e n f => k a H2 e n ⟨f.er, fun _ => f⟩) a na⟩
  · obtain rfl : n = 8 := by omega
    exact ⟨_, rfl, rfl, fun a na => Xc.ob1 (fun a H2 e n f => k a H2 e n ⟨f.er, fun _ => f⟩) a na⟩
  · obtain rfl : n = 9 := by omega
    exact ⟨_, rfl, rfl, fun a na => Xc.ob1 (fun a H2 e n f => k a H2 e n ⟨f.er, fun _ => f⟩) a na⟩
  · obtain rfl : n = 10 := by omega
    exact ⟨_, rfl, rfl, fun a na => Xc.ob1 (fun a H2 e n f => k a H2 e n ⟨f.er, fun _ => f⟩) a na⟩
  · obtain rfl : n = 11 := by omega
    exact fun a na => Xc.ob0 (fun a H2 e n f => k a H2 e n ⟨f, fun q => absurd rfl q⟩) a na
end
end K00
set_option maxRecDepth 100000
set_option maxHeartbeats 4000000
namespace K00
open PySem PySem.Spec PyProof.Rows L2 Pre
section
variable {P : Program} {w : World} {K : PySem.W.Frag} {mg : Str → Option Value} {base : Heap}
theorem cat_mem (T : Tx K mg) {n : Nat} (h : n < 12) : cat T n ∈ cs T := by
  unfold cat
  rw [List.getD_eq_getElem?_getD, List.getElem?_eq_getElem (show n < (cs T).length from h)]
  exact List.getElem_mem _
theorem cat_inj (T : Tx K mg) {n m : Nat} (hn : n < 12) (hm : m < 12) (e : cat T n = cat T m) : n = m := by
  have nd : (cs T).Nodup := Xc.tab_nodup T.tab
  unfold cat at e
  rw [List.getD_eq_getElem?_getD, List.getD_eq_getElem?_getD, List.getElem?_eq_getElem (show n < (cs T).length from hn), List.getElem?_eq_getElem (show m < (cs T).length from hm)] at e
  have q := List.pairwise_iff_getElem.mp nd
  rcases Nat.lt_trichotomy n m with h | h | h
  · exact absurd e (q n m hn hm h)
  · exact h
  · exact absurd e.symm (q m n hm hn h)
/-- an except clause with the class of the number j, at an error with the number n -/
theorem stepC (T : Tx K mg) {n j : Nat} {c : Addr} {A B : Prop} (hn : n < 12) (hj : j < 12) (hc : c = cat T j) (h1 : n = j → A) (h2 : n ≠ j → B) : ∃ b, PySem.W.exmOne K (.ref (cat T n)) (.ref c) = some b ∧ (b = true → A) ∧ (b = false → B) := by
  subst hc
  refine ⟨_, (Xc.tab_pair T.tab (cat_mem T hn) (cat_mem T hj)).1, fun q => h1 (cat_inj T hn hj (beq_iff_eq.mp q)), fun q => h2 fun z => ?_⟩
  rw [z] at q
  simp at q

/-! ### raised -/
def raised (T : Tx K mg) (H : Hp) (E : XK) (n : Nat) (x y : V) : Prop := (n ≠ 11 → ∀ d, H d = none → E (.ref (cat T n)) (some d) (upd H d (.xd (flds n x y)))) ∧ (n = 11 → E (.ref (cat T n)) none H)
def spRaise (T : Tx K mg) (m : Nat) : Sp := fun vs H _ E => ∃ (n : Nat) (x y : V), vs = [.int n, x, y] ∧ n < m ∧ raised T H E n x y
theorem raise_len {T : Tx K mg} {m : Nat} (vs : List V) (H : Hp) (Q : VK) (E : XK) (h : spRaise T m vs H Q E) : vs.length = 3 := by
  obtain ⟨n, x, y, rfl, _⟩ := h
  rfl
theorem ok_law_raise_one (T : Tx K mg) : FnOk P w K mg base (L2.CX P w) 3 T.law_raise_one T.law_raise_one_fd ["number", "thing", "other"] (spRaise T 6) := by
  refine T.law_raise_one_F.okX sc_law_raise_one raise_len (fun cdv A outer s H vs Q E hr h => ?_)
  obtain ⟨n, x, y, rfl, hn, r⟩ := h
  refine ⟨_, (pss_one (ps_if (pt_cmpR op_eq (pv 0) pe_int (nomark _)) (pss_one (ps_raise rfl (takes_of rfl rfl rfl rfl) (Xc.pmk_er PySem.F.excBase_Exception T.InvalidHeap_E.c T.InvalidHeap_iC T.InvalidHeap_tI (ok_InvalidHeap_i T) (hr.mono (by decide)) T.InvalidHeap_b .nil pass0 (by rfl) T.InvalidHeap_m (pa_cons (pv 1) pa_nil)))) (pss_one (ps_if (pt_cmpR op_eq (pv 0) pe_int (nomark _)) (pss_one (ps_raise rfl (takes_of rfl rfl rfl rfl) (Xc.pmk_er PySem.F.excBase_Exception T.InvalidPlan_E.c T.InvalidPlan_iC T.InvalidPlan_tI (ok_InvalidPlan_i T) (hr.mono (by decide)) T.InvalidPlan_b .nil pass0 (by rfl) T.InvalidPlan_m (pa_cons (pv 1) (pa_cons (pv 2) pa_nil))))) (pss_one (ps_if (pt_cmpR op_eq (pv 0) pe_int (nomark _)) (pss_one (ps_raise rfl (takes_of rfl rfl rfl rfl) (Xc.pmk_er PySem.F.excBase_Exception T.InvalidText_E.c T.InvalidText_iC T.InvalidText_tI (ok_InvalidText_i T) (hr.mono (by decide)) T.InvalidText_b .nil pass0 (by rfl) T.InvalidText_m (pa_cons (pv 1) pa_nil)))) (pss_one (ps_if (pt_cmpR op_eq (pv 0) pe_int (nomark _)) (pss_one (ps_raise rfl (takes_of rfl rfl rfl rfl) (Xc.pmk_er PySem.F.excBase_Exception T.InvalidRun_E.c T.InvalidRun_iC T.InvalidRun_tI (ok_InvalidRun_i T) (hr.mono (by decide)) T.InvalidRun_b .nil pass0 (by rfl) T.InvalidRun_m (pa_cons (pv 1) pa_nil)))) (pss_one (ps_if (pt_cmpR op_eq (pv 0) pe_int (nomark _)) (pss_one (ps_raise rfl (takes_of rfl rfl rfl rfl) (Xc.pmk_er PySem.F.excBase_Exception T.InvalidTerm_E.c T.InvalidTerm_iC T.InvalidTerm_tI (ok_InvalidTerm_i T) (hr.mono (by decide)) T.InvalidTerm_b .nil pass0 (by rfl) T.InvalidTerm_m (pa_cons (pv 1) pa_nil)))) (pss_one (ps_if (pt_cmpR op_eq (pv 0) pe_int (nomark _)) (pss_one (ps_raise rfl (takes_of rfl rfl rfl rfl) (Xc.pmk_er PySem.F.excBase_Exception T.InvalidCarry_E.c T.InvalidCarry_iC T.InvalidCarry_tI (ok_InvalidCarry_i T) (hr.mono (by decide)) T.InvalidCarry_b .nil pass0 (by rfl) T.InvalidCarry_m (pa_cons (pv 1) pa_nil)))) pss_nil)))))))))))), ?_⟩
  refine ⟨_, rfl, rfl, _, rfl, ifI (fun e => ?_) fun e0 => ⟨_, rfl, rfl, _, rfl, ifI (fun e => ?_) fun e1 => ⟨_, rfl, rfl, _, rfl, ifI (fun e => ?_) fun e2 => ⟨_, rfl, rfl, _, rfl, ifI (fun e => ?_) fun e3 => ⟨_, rfl, rfl, _, rfl, ifI (fun e => ?_) fun e4 =>
    ⟨_, rfl, rfl, _, rfl, ifI (fun e => ?_) fun e5 => absurd hn (by omega)⟩⟩⟩⟩⟩⟩
  · obtain rfl : n = 0 := by omega
    exact ⟨_, rfl, Xc.mk1 (r.1 (by decide))⟩
  · obtain rfl : n = 1 := by omega
    exact ⟨_, rfl, _, rfl, Xc.mk2 (r.1 (by decide))⟩
  · obtain rfl : n = 2 := by omega
    exact ⟨_, rfl, Xc.mk1 (r.1 (by decide))⟩
  · obtain rfl : n = 3 := by omega
    exact ⟨_, rfl, Xc.mk1 (r.1 (by decide))⟩
  · obtain rfl : n = 4 := by omega
    exact ⟨_, rfl, Xc.mk1 (r.1 (by decide))⟩
  · obtain rfl : n = 5 := by omega
    exact ⟨_, rfl, Xc.mk1 (r.1 (by decide))⟩
theorem ok_law_raise (T : Tx K mg) : FnOk P w K mg base (L2.CX P w) 4 T.law_raise T.law_raise_fd ["number", "thing", "other"] (spRaise T 12) := by
  refine T.law_raise_F.okX sc_law_raise raise_len (fun cdv A outer s H vs Q E hr h => ?_)
  obtain ⟨n, x, y, rfl, hn, r⟩ := h
  refine ⟨_, (pss_one (ps_if (pt_cmpR op_lt (pv 0) pe_int (nomark _)) (pss_one (ps_expr (pe_call (ok_law_raise_one T) (hr.mono (by decide)) (by rfl) T.law_raise_one_m T.law_raise_one_F.kp T.law_raise_one_b .nil (passes_call (takes_of rfl rfl rfl rfl) fun _ _ _ _ h => h) (pa_cons (pv 0) (pa_cons (pv 1) (pa_cons (pv 2) pa_nil)))))) (pss_one (ps_if (pt_cmpR op_eq (pv 0) pe_int (nomark _)) (pss_one (ps_raise rfl (takes_of rfl rfl rfl rfl) (Xc.pmk_er PySem.F.excBase_Exception T.InvalidDeed_E.c T.InvalidDeed_iC T.InvalidDeed_tI (ok_InvalidDeed_i T) (hr.mono (by decide)) T.InvalidDeed_b .nil pass0 (by rfl) T.InvalidDeed_m (pa_cons (pv 1) pa_nil)))) (pss_one (ps_if (pt_cmpR op_eq (pv 0) pe_int (nomark _)) (pss_one (ps_raise rfl (takes_of rfl rfl rfl rfl) (Xc.pmk_er PySem.F.excBase_Exception T.InvalidOctets_E.c T.InvalidOctets_iC T.InvalidOctets_tI (ok_InvalidOctets_i T) (hr.mono (by decide)) T.InvalidOctets_b .nil pass0 (by rfl) T.InvalidOctets_m (pa_cons (pv 1) pa_nil)))) (pss_one (ps_if (pt_cmpR op_eq (pv 0) pe_int (nomark _)) (pss_one (ps_raise rfl (takes_of rfl rfl rfl rfl) (Xc.pmk_er PySem.F.excBase_Exception T.InvalidSize_E.c T.InvalidSize_iC T.InvalidSize_tI (ok_InvalidSize_i T) (hr.mono (by decide)) T.InvalidSize_b .nil pass0 (by rfl) T.InvalidSize_m (pa_cons (pv 1) pa_nil)))) (pss_one (ps_if (pt_cmpR op_eq (pv 0) pe_int (nomark _)) (pss_one (ps_raise rfl (takes_of rfl rfl rfl rfl) (Xc.pmk_er PySem.F.excBase_Exception T.Refused_E.c T.Refused_iC T.Refused_tI (ok_Refused_i T) (hr.mono (by decide)) T.Refused_b .nil pass0 (by rfl) T.Refused_m (pa_cons (pv 1) pa_nil)))) (pss_one (ps_if (pt_cmpR op_eq (pv 0) pe_int (nomark _)) (pss_one (ps_raise rfl (takes_of rfl rfl rfl rfl) (Xc.pmk_er PySem.F.excBase_LookupError T.NoName_E.c T.NoName_iC T.NoName_tI (ok_NoName_i T) (hr.mono (by decide)) T.NoName_b .nil pass0 (by rfl) T.NoName_m (pa_cons (pv 1) pa_nil)))) (pss_one (ps_raise rfl (takes_of rfl rfl rfl rfl) (Xc.pmk_exc0 PySem.F.excBase_Exception T.InvalidCommand_q T.InvalidCommand_m T.InvalidCommand_E.c.kC (raises_own T.InvalidCommand_E.c.exC T.InvalidCommand_E.c.tyC) (by rfl)))))))))))))))), ?_⟩
  refine ⟨_, rfl, _, _, rfl, rfl, _, rfl, ite2 (fun c => ?_) fun c => ⟨_, rfl, rfl, _, rfl, ifI (fun e => ?_) fun e6 => ⟨_, rfl, rfl, _, rfl, ifI (fun e => ?_) fun e7 => ⟨_, rfl, rfl, _, rfl, ifI (fun e => ?_) fun e8 => ⟨_, rfl, rfl, _, rfl, ifI (fun e => ?_) fun e9 =>
    ⟨_, rfl, rfl, _, rfl, ifI (fun e => ?_) fun e10 => ?_⟩⟩⟩⟩⟩⟩
  · have c' := of_decide_eq_true c
    exact ⟨_, rfl, _, rfl, _, rfl, n, x, y, rfl, by omega, r⟩
  · obtain rfl : n = 6 := by omega
    exact ⟨_, rfl, Xc.mk1 (r.1 (by decide))⟩
  · obtain rfl : n = 7 := by omega
    exact ⟨_, rfl, Xc.mk1 (r.1 (by decide))⟩
  · obtain rfl : n = 8 := by omega
    exact ⟨_, rfl, Xc.mk1 (r.1 (by decide))⟩
  · obtain rfl : n = 9 := by omega
    exact ⟨_, rfl, Xc.mk1 (r.1 (by decide))⟩
  · obtain rfl : n = 10 := by omega
    exact ⟨_, rfl, Xc.mk1 (r.1 (by decide))⟩
  · have c' : ¬ (n : Int) < 6 := fun z => c (decide_eq_true z)
    obtain rfl : n = 11 := by omega
    exact r.2 rfl
end
end K00
set_option maxRecDepth 100000
set_option maxHeartbeats 4000000
namespace K00
open PySem PySem.Spec PyProof.Rows L2 Pre
section
variable {P : Program} {w : World} {K : PySem.W.Frag} {mg : Str → Option Value} {base : Heap}
def vals (n : Nat) (x y : V) : List V := match n with
  | 1 => [x, y]
  | 11 => []
  | _ => [x]
/-- what is told of an error that was caught -/
def CaughtAt (H : Hp) (p : Addr) (n : Nat) (x y : V) : Prop := ∃ q, H p = some (.lst [.int n, .ref q]) ∧ H q = some (.lst (vals n x y))
theorem caught_new {H1 : Hp} {n : Nat} {x y : V} {Q : VK} {xs : List V} (k : ∀ p H', Ex H1 H' → CaughtAt H' p n x y → Q (.ref p) H') (e : xs = vals n x y) (q : Addr) (nq : H1 q = none) (p : Addr) (np : upd H1 q (.lst xs) p = none) :
    Q (.ref p) (upd (upd H1 q (.lst xs)) p (.lst [.int n, .ref q])) := by
  have h := Xc.upd_none np
  refine k p _ ((exn nq).trans (exn np)) ⟨q, upd_same, ?_⟩
  rw [upd_ne (Ne.symm h.2), upd_same, e]

def spCaught1 (T : Tx K mg) : Sp := fun vs H Q E => ∃ (n : Nat) (x y : V), vs = [.int n, x, y] ∧ n < 12 ∧ (n < 6 → ∀ p H', Ex H H' → CaughtAt H' p n x y → Q (.ref p) H') ∧ (6 ≤ n → raised T H E n x y)
theorem ok_law_caught_one (T : Tx K mg) : FnOk P w K mg base (L2.CX P w) 5 T.law_caught_one T.law_caught_one_fd ["number", "thing", "other"] (spCaught1 T) := by
  refine T.law_caught_one_F.okX sc_law_caught_one (fun vs H Q E h => ?_) (fun cdv A outer s H vs Q E hr h => ?_)
  · obtain ⟨n, x, y, rfl, _⟩ := h
    rfl
  · obtain ⟨n, x, y, rfl, hn, k, r⟩ := h
    refine ⟨_, (pss_cons (Xc.ps_try_all rfl rfl (takes_of rfl rfl rfl rfl) (fun W pn xe tk _ => (pss_one (ps_expr (pe_callS (ok_law_raise T) (hr.mono (by decide)) (by rfl) T.law_raise_m T.law_raise_F.kp T.law_raise_b (fun σ => passAt tk σ) (pa_cons (pv 0) (pa_cons (pv 1) (pa_cons (pv 2) pa_nil))))))) (Xc.Hds.as_ (i := 3) sc_law_caught_one.nd rfl rfl ⟨rfl, by decide, .inl T.InvalidHeap_m⟩ (fun a oe cls d pn hz hf => (pss_one (ps_ret (pe_lst (pa_cons pe_int (pa_cons (pe_lst (pa_cons (pe_xf T.InvalidHeap_E.x (T.InvalidHeap_E.no _ (by simp)) hz hf (pv 3)) pa_nil)) pa_nil)))))) (Xc.Hds.as_ (i := 3) sc_law_caught_one.nd rfl rfl ⟨rfl, by decide, .inl T.InvalidPlan_m⟩ (fun a oe cls d pn hz hf => (pss_one (ps_ret (pe_lst (pa_cons pe_int (pa_cons (pe_lst (pa_cons (pe_xf T.InvalidPlan_E.x (T.InvalidPlan_E.no _ (by simp)) hz hf (pv 3)) (pa_cons (pe_xf T.InvalidPlan_E.x (T.InvalidPlan_E.no _ (by simp)) hz hf (pv 3)) pa_nil))) pa_nil)))))) (Xc.Hds.as_ (i := 3) sc_law_caught_one.nd rfl rfl ⟨rfl, by decide, .inl T.InvalidText_m⟩ (fun a oe cls d pn hz hf => (pss_one (ps_ret (pe_lst (pa_cons pe_int (pa_cons (pe_lst (pa_cons (pe_xf T.InvalidText_E.x (T.InvalidText_E.no _ (by simp)) hz hf (pv 3)) pa_nil)) pa_nil)))))) (Xc.Hds.as_ (i := 3) sc_law_caught_one.nd rfl rfl ⟨rfl, by decide, .inl T.InvalidRun_m⟩ (fun a oe cls d pn hz hf => (pss_one (ps_ret (pe_lst (pa_cons pe_int (pa_cons (pe_lst (pa_cons (pe_xf T.InvalidRun_E.x (T.InvalidRun_E.no _ (by simp)) hz hf (pv 3)) pa_nil)) pa_nil)))))) (Xc.Hds.as_ (i := 3) sc_law_caught_one.nd rfl rfl ⟨rfl, by decide, .inl T.InvalidTerm_m⟩ (fun a oe cls d pn hz hf => (pss_one (ps_ret (pe_lst (pa_cons pe_int (pa_cons (pe_lst (pa_cons (pe_xf T.InvalidTerm_E.x (T.InvalidTerm_E.no _ (by simp)) hz hf (pv 3)) pa_nil)) pa_nil)))))) (Xc.Hds.as_ (i := 3) sc_law_caught_one.nd rfl rfl ⟨rfl, by decide, .inl T.InvalidCarry_m⟩ (fun a oe cls d pn hz hf => (pss_one (ps_ret (pe_lst (pa_cons pe_int (pa_cons (pe_lst (pa_cons (pe_xf T.InvalidCarry_E.x (T.InvalidCarry_E.no _ (by simp)) hz hf (pv 3)) pa_nil)) pa_nil)))))) Xc.Hds.nil)))))))
      (pss_one (ps_ret (pe_lst (pa_cons (pe_un un_neg pe_int) (pa_cons (pe_lst pa_nil) pa_nil)))))), ?_⟩
    refine ⟨_, rfl, _, rfl, _, rfl, n, x, y, rfl, hn, fun h11 d nd => ?_, fun h11 => ?_⟩
    · refine stepC T hn (j := 0) (by decide) rfl (fun e => ?_) fun e0 => stepC T hn (j := 1) (by decide) rfl (fun e => ?_) fun e1 => stepC T hn (j := 2) (by decide) rfl (fun e => ?_) fun e2 => stepC T hn (j := 3) (by decide) rfl (fun e => ?_) fun e3 =>
        stepC T hn (j := 4) (by decide) rfl (fun e => ?_) fun e4 => stepC T hn (j := 5) (by decide) rfl (fun e => ?_) fun e5 => (r (by omega)).1 h11 d nd
      · subst e
        intro a na
        have k' := k (by decide)
        exact ⟨_, rfl, rfl, rfl, d, _, _, rfl, upd_same, rfl, (by show 1 ≤ sizeLine; decide), fun q nq => ⟨(by show 2 ≤ sizeLine; decide), fun p np => caught_new (fun p H' e h => k' p H' ((exn nd).trans e) h) rfl q nq p np⟩⟩
      · subst e
        intro a na
        have k' := k (by decide)
        exact ⟨_, rfl, rfl, rfl, d, _, _, rfl, upd_same, rfl, _, rfl, rfl, rfl, d, _, _, rfl, upd_same, rfl, (by show 2 ≤ sizeLine; decide), fun q nq => ⟨(by show 2 ≤ sizeLine; decide), fun p np => caught_new (fun p H' e h => k' p H' ((exn nd).trans e) h) rfl q nq p np⟩⟩
      · subst e
        intro a na
        have k' := k (by decide)
        exact ⟨_, rfl, rfl, rfl, d, _, _, rfl, upd_same, rfl, (by show 1 ≤ sizeLine; decide), fun q nq => ⟨(by show 2 ≤ sizeLine; decide), fun p np => caught_new (fun p H' e h => k' p H' ((exn nd).trans e) h) rfl q nq p np⟩⟩
      · subst e
        intro a na
        have k' := k (by decide)
        exact ⟨_, rfl, rfl, rfl, d, _, _, rfl, upd_same, rfl, (by show 1 ≤ sizeLine; decide), fun q nq => ⟨(by show 2 ≤ sizeLine; decide), fun p np => caught_new (fun p H' e h => k' p H' ((exn nd).trans e) h) rfl q nq p np⟩⟩
      · subst e
        intro a na
        have k' := k (by decide)
        exact ⟨_, rfl, rfl, rfl, d, _, _, rfl, upd_same, rfl, (by show 1 ≤ sizeLine; decide), fun q nq => ⟨(by show 2 ≤ sizeLine; decide), fun p np => caught_new (fun p H' e h => k' p H' ((exn nd).trans e) h) rfl q nq p np⟩⟩
      · subst e
        intro a na
        have k' := k (by decide)
        exact ⟨_, rfl, rfl, rfl, d, _, _, rfl, upd_same, rfl, (by show 1 ≤ sizeLine; decide), fun q nq => ⟨(by show 2 ≤ sizeLine; decide), fun p np => caught_new (fun p H' e h => k' p H' ((exn nd).trans e) h) rfl q nq p np⟩⟩
    · refine stepC T hn (j := 0) (by decide) rfl (fun e => absurd e (by omega)) fun e0 => stepC T hn (j := 1) (by decide) rfl (fun e => absurd e (by omega)) fun e1 => stepC T hn (j := 2) (by decide) rfl (fun e => absurd e (by omega)) fun e2 =>
        stepC T hn (j := 3) (by decide) rfl (fun e => absurd e (by omega)) fun e3 => stepC T hn (j := 4) (by decide) rfl (fun e => absurd e (by omega)) fun e4 => stepC T hn (j := 5) (by decide) rfl (fun e => absurd e (by omega)) fun e5 => (r (by omega)).2 h11

def spCaught (T : Tx K mg) : Sp := fun vs H Q _ => ∃ (n : Nat) (x y : V), vs = [.int n, x, y] ∧ n < 12 ∧ ∀ p H', Ex H H' → CaughtAt H' p n x y → Q (.ref p) H'
theorem ok_law_caught (T : Tx K mg) : FnOk P w K mg base CX0 6 T.law_caught T.law_caught_fd ["number", "thing", "other"] (spCaught T) := by
  refine T.law_caught_F.ok sc_law_caught (fun vs H Q E h => ?_) (fun cdv A outer s H vs Q E hr h => ?_)
  · obtain ⟨n, x, y, rfl, _⟩ := h
    rfl
  · obtain ⟨n, x, y, rfl, hn, k⟩ := h
    refine ⟨_, (pss_one (Xc.ps_try_all rfl rfl takes_none5 (fun W pn xe tk _ => (pss_one (ps_ret (pe_callS (ok_law_caught_one T) (hr.mono (by decide)) (by rfl) T.law_caught_one_m T.law_caught_one_F.kp T.law_caught_one_b (fun σ => passAt tk σ) (pa_cons (pv 0) (pa_cons (pv 1) (pa_cons (pv 2) pa_nil))))))) (Xc.Hds.as_ (i := 3) sc_law_caught.nd rfl rfl ⟨rfl, by decide, .inl T.InvalidDeed_m⟩ (fun a oe cls d pn hz hf => (pss_one (ps_ret (pe_lst (pa_cons pe_int (pa_cons (pe_lst (pa_cons (pe_xf T.InvalidDeed_E.x (T.InvalidDeed_E.no _ (by simp)) hz hf (pv 3)) pa_nil)) pa_nil)))))) (Xc.Hds.as_ (i := 3) sc_law_caught.nd rfl rfl ⟨rfl, by decide, .inl T.InvalidOctets_m⟩ (fun a oe cls d pn hz hf => (pss_one (ps_ret (pe_lst (pa_cons pe_int (pa_cons (pe_lst (pa_cons (pe_xf T.InvalidOctets_E.x (T.InvalidOctets_E.no _ (by simp)) hz hf (pv 3)) pa_nil)) pa_nil)))))) (Xc.Hds.as_ (i := 3) sc_law_caught.nd rfl rfl ⟨rfl, by decide, .inl T.InvalidSize_m⟩ (fun a oe cls d pn hz hf => (pss_one (ps_ret (pe_lst (pa_cons pe_int (pa_cons (pe_lst (pa_cons (pe_xf T.InvalidSize_E.x (T.InvalidSize_E.no _ (by simp)) hz hf (pv 3)) pa_nil)) pa_nil)))))) (Xc.Hds.as_ (i := 3) sc_law_caught.nd rfl rfl ⟨rfl, by decide, .inl T.Refused_m⟩ (fun a oe cls d pn hz hf => (pss_one (ps_ret (pe_lst (pa_cons pe_int (pa_cons (pe_lst (pa_cons (pe_xf T.Refused_E.x (T.Refused_E.no _ (by simp)) hz hf (pv 3)) pa_nil)) pa_nil)))))) (Xc.Hds.as_ (i := 3) sc_law_caught.nd rfl rfl ⟨rfl, by decide, .inl T.NoName_m⟩ (fun a oe cls d pn hz hf => (pss_one (ps_ret (pe_lst (pa_cons pe_int (pa_cons (pe_lst (pa_cons (pe_xf T.NoName_E.x (T.NoName_E.no _ (by simp)) hz hf (pv 3)) pa_nil)) pa_nil)))))) (Xc.Hds.bare ⟨rfl, by decide, .inl T.InvalidCommand_m⟩ (fun a oe cls d pn hz hf => (pss_one (ps_ret (pe_lst (pa_cons pe_int (pa_cons (pe_lst pa_nil) pa_nil)))))) Xc.Hds.nil)))))))), ?_⟩
    refine ⟨_, rfl, _, rfl, _, rfl, n, x, y, rfl, hn, fun _ => k, fun h6 => ⟨fun h11 d nd => ?_, fun h11 => ?_⟩⟩
    · refine stepC T hn (j := 6) (by decide) rfl (fun e => ?_) fun e0 => stepC T hn (j := 7) (by decide) rfl (fun e => ?_) fun e1 => stepC T hn (j := 8) (by decide) rfl (fun e => ?_) fun e2 => stepC T hn (j := 9) (by decide) rfl (fun e => ?_) fun e3 =>
        stepC T hn (j := 10) (by decide) rfl (fun e => ?_) fun e4 => absurd hn (by omega)
      · subst e
        intro a na
        exact ⟨_, rfl, rfl, rfl, d, _, _, rfl, upd_same, rfl, (by show 1 ≤ sizeLine; decide), fun q nq => ⟨(by show 2 ≤ sizeLine; decide), fun p np => caught_new (fun p H' e h => k p H' ((exn nd).trans e) h) rfl q nq p np⟩⟩
      · subst e
        intro a na
        exact ⟨_, rfl, rfl, rfl, d, _, _, rfl, upd_same, rfl, (by show 1 ≤ sizeLine; decide), fun q nq => ⟨(by show 2 ≤ sizeLine; decide), fun p np => caught_new (fun p H' e h => k p H' ((exn nd).trans e) h) rfl q nq p np⟩⟩
      · subst e
        intro a na
        exact ⟨_, rfl, rfl, rfl, d, _, _, rfl, upd_same, rfl, (by show 1 ≤ sizeLine; decide), fun q nq => ⟨(by show 2 ≤ sizeLine; decide), fun p np => caught_new (fun p H' e h => k p H' ((exn nd).trans e) h) rfl q nq p np⟩⟩
      · subst e
        intro a na
        exact ⟨_, rfl, rfl, rfl, d, _, _, rfl, upd_same, rfl, (by show 1 ≤ sizeLine; decide), fun q nq => ⟨(by show 2 ≤ sizeLine; decide), fun p np => caught_new (fun p H' e h => k p H' ((exn nd).trans e) h) rfl q nq p np⟩⟩
      · subst e
        intro a na
        exact ⟨_, rfl, rfl, rfl, d, _, _, rfl, upd_same, rfl, (by show 1 ≤ sizeLine; decide), fun q nq => ⟨(by show 2 ≤ sizeLine; decide), fun p np => caught_new (fun p H' e h => k p H' ((exn nd).trans e) h) rfl q nq p np⟩⟩
    · subst h11
      refine stepC T hn (j := 6) (by decide) rfl (fun e => absurd e (by decide)) fun e0 => stepC T hn (j := 7) (by decide) rfl (fun e => absurd e (by decide)) fun e1 => stepC T hn (j := 8) (by decide) rfl (fun e => absurd e (by decide)) fun e2 =>
        stepC T hn (j := 9) (by decide) rfl (fun e => absurd e (by decide)) fun e3 => stepC T hn (j := 10) (by decide) rfl (fun e => absurd e (by decide)) fun e4 => stepC T hn (j := 11) (by decide) rfl (fun e => ?_) fun e5 => absurd rfl e5
      intro a na
      exact ⟨(by show 0 ≤ sizeLine; decide), fun q nq => ⟨(by show 2 ≤ sizeLine; decide), fun p np => caught_new k rfl q nq p np⟩⟩

def spBase (T : Tx K mg) : Sp := fun vs H Q _ => ∃ (n : Nat) (x y : V), vs = [.int n, x, y] ∧ n < 12 ∧ ∀ H', Ex H H' → Q (.str (if n = 10 then "key" else "case")) H'
theorem no10 (T : Tx K mg) {n : Nat} (hn : n < 12) : (cat T n == T.NoName) = decide (n = 10) := by
  by_cases h : n = 10
  · subst h
    exact (beq_iff_eq.mpr rfl).trans (decide_eq_true rfl).symm
  · rw [decide_eq_false h]
    exact beq_eq_false_iff_ne.mpr fun e => h (cat_inj T hn (by decide) (e : cat T n = cat T 10))
theorem ok_law_base (T : Tx K mg) : FnOk P w K mg base CX0 5 T.law_base T.law_base_fd ["number", "thing", "other"] (spBase T) := by
  refine T.law_base_F.ok sc_law_base (fun vs H Q E h => ?_) (fun cdv A outer s H vs Q E hr h => ?_)
  · obtain ⟨n, x, y, rfl, _⟩ := h
    rfl
  · obtain ⟨n, x, y, rfl, hn, k⟩ := h
    obtain ⟨t1, t2, _⟩ := Xc.tab_one T.tab (cat_mem T hn)
    have b1 := no10 T hn
    have go : ∀ (H' : Hp), Ex H H' → ∃ b, PySem.W.exmOne K (.ref (cat T n)) (.ref T.CaseError) = some b ∧ (b = true → ∀ a, H' a = none → Q (.str "case") H') ∧ (b = false → ∃ b, PySem.W.exmOne K (.ref (cat T n)) (.type "KeyError") = some b ∧ (b = true → ∀ a, H' a = none → Q (.str "key") H') ∧ (b = false → False)) := by
      intro H' ex
      refine ⟨_, t1, fun q a na => ?_, fun q => ⟨_, t2, fun q a na => ?_, fun z => ?_⟩⟩
      · have z : n ≠ 10 := fun z => by
          rw [bne, b1, z] at q
          cases q
        have w := k H' ex
        rwa [if_neg z] at w
      · rw [b1] at q
        have w := k H' ex
        rwa [if_pos (of_decide_eq_true q)] at w
      · rw [bne, z] at q
        cases q
    refine ⟨_, (pss_cons (Xc.ps_try_all rfl rfl takes_none5 (fun W pn xe tk _ => (pss_one (ps_expr (pe_callS (ok_law_raise T) (hr.mono (by decide)) (by rfl) T.law_raise_m T.law_raise_F.kp T.law_raise_b (fun σ => passAt tk σ) (pa_cons (pv 0) (pa_cons (pv 1) (pa_cons (pv 2) pa_nil))))))) (Xc.Hds.bare ⟨rfl, by decide, .inl T.CaseError_m⟩ (fun a oe cls d pn hz hf => (pss_one (ps_ret pe_str))) (Xc.Hds.bare ⟨rfl, by decide, .inr ⟨T.z_KeyError, PyProof.Rows.Boot.«KeyError», by decide⟩⟩ (fun a oe cls d pn hz hf => (pss_one (ps_ret pe_str))) Xc.Hds.nil)))
      (pss_one (ps_ret pe_str))), ?_⟩
    exact ⟨_, rfl, _, rfl, _, rfl, n, x, y, rfl, hn, fun h11 d nd => go _ (exn nd), fun h11 => go _ ex0⟩
end
end K00
set_option maxRecDepth 100000
set_option maxHeartbeats 4000000
namespace K00
open PySem PySem.Spec PyProof.Rows L2 Pre
section
variable {P : Program} {w : World} {K : PySem.W.Frag} {mg : Str → Option Value} {base : Heap}
theorem facts (T : Tx K mg) {n : Nat} (hn : n < 12) : Xc.EisC K (cat T n) ∧ Xc.EqC K (cat T n) := by
  match n, hn with
  | 0, _ => exact ⟨T.InvalidHeap_E.i, T.InvalidHeap_E.e⟩
  | 1, _ => exact ⟨T.InvalidPlan_E.i, T.InvalidPlan_E.e⟩
  | 2, _ => exact ⟨T.InvalidText_E.i, T.InvalidText_E.e⟩
  | 3, _ => exact ⟨T.InvalidRun_E.i, T.InvalidRun_E.e⟩
  | 4, _ => exact ⟨T.InvalidTerm_E.i, T.InvalidTerm_E.e⟩
  | 5, _ => exact ⟨T.InvalidCarry_E.i, T.InvalidCarry_E.e⟩
  | 6, _ => exact ⟨T.InvalidDeed_E.i, T.InvalidDeed_E.e⟩
  | 7, _ => exact ⟨T.InvalidOctets_E.i, T.InvalidOctets_E.e⟩
  | 8, _ => exact ⟨T.InvalidSize_E.i, T.InvalidSize_E.e⟩
  | 9, _ => exact ⟨T.Refused_E.i, T.Refused_E.e⟩
  | 10, _ => exact ⟨T.NoName_E.i, T.NoName_E.e⟩
  | 11, _ => exact ⟨T.InvalidCommand_E.i, T.InvalidCommand_E.e⟩
theorem kitJ (T : Tx K mg) {n j : Nat} (hn : n < 12) (hj : j < 12) : PySem.W.kitOne K (.ref (cat T n)) (.ref (cat T j)) = some (decide (j = n)) := by
  rw [(Xc.tab_pair T.tab (cat_mem T hn) (cat_mem T hj)).2.1]
  by_cases h : j = n
  · rw [h]
    simp
  · rw [decide_eq_false h]
    exact congrArg some (beq_eq_false_iff_ne.mpr fun e => h (cat_inj T hn hj e).symm)
def kindsV (n : Nat) : List V := (List.range 12).map (fun j => V.bl (decide (j = n))) ++ [.bl (!decide (n = 10)), .bl (decide (n = 10)), .bl false]
def spKinds (T : Tx K mg) : Sp := fun vs H Q _ => ∃ (n : Nat) (a : Addr), vs = [.ref a] ∧ n < 12 ∧ Xc.ErV H a (cat T n) ∧ ∀ p H', Ex H H' → H' p = some (.lst (kindsV n)) → Q (.ref p) H'
theorem ok_law_kinds (T : Tx K mg) : FnOk P w K mg base CX0 1 T.law_kinds T.law_kinds_fd ["error"] (spKinds T) := by
  refine T.law_kinds_F.ok sc_law_kinds (fun vs H Q E h => ?_) (fun cdv A outer s H vs Q E hr h => ?_)
  · obtain ⟨n, a, rfl, _⟩ := h
    rfl
  · obtain ⟨n, a, rfl, hn, ha, k⟩ := h
    have fi := (facts T hn).1
    obtain ⟨_, _, t3, t4, t5⟩ := Xc.tab_one T.tab (cat_mem T hn)
    rw [bne, no10 T hn] at t3
    rw [no10 T hn] at t4
    refine ⟨_, (pss_one (ps_ret (pe_lst (pa_cons (pe_callB Xc.call_isEv (by rfl) T.z_isinstance (by decide +kernel) (pa_cons (pv 0) (pa_cons (pe_glob (v := .ref T.InvalidHeap) (by rfl) T.InvalidHeap_m rfl) pa_nil))) (pa_cons (pe_callB Xc.call_isEv (by rfl) T.z_isinstance (by decide +kernel) (pa_cons (pv 0) (pa_cons (pe_glob (v := .ref T.InvalidPlan) (by rfl) T.InvalidPlan_m rfl) pa_nil))) (pa_cons (pe_callB Xc.call_isEv (by rfl) T.z_isinstance (by decide +kernel) (pa_cons (pv 0) (pa_cons (pe_glob (v := .ref T.InvalidText) (by rfl) T.InvalidText_m rfl) pa_nil))) (pa_cons (pe_callB Xc.call_isEv (by rfl) T.z_isinstance (by decide +kernel) (pa_cons (pv 0) (pa_cons (pe_glob (v := .ref T.InvalidRun) (by rfl) T.InvalidRun_m rfl) pa_nil))) (pa_cons (pe_callB Xc.call_isEv (by rfl) T.z_isinstance (by decide +kernel) (pa_cons (pv 0) (pa_cons (pe_glob (v := .ref T.InvalidTerm) (by rfl) T.InvalidTerm_m rfl) pa_nil))) (pa_cons (pe_callB Xc.call_isEv (by rfl) T.z_isinstance (by decide +kernel) (pa_cons (pv 0) (pa_cons (pe_glob (v := .ref T.InvalidCarry) (by rfl) T.InvalidCarry_m rfl) pa_nil))) (pa_cons (pe_callB Xc.call_isEv (by rfl) T.z_isinstance (by decide +kernel) (pa_cons (pv 0) (pa_cons (pe_glob (v := .ref T.InvalidDeed) (by rfl) T.InvalidDeed_m rfl) pa_nil))) (pa_cons (pe_callB Xc.call_isEv (by rfl) T.z_isinstance (by decide +kernel) (pa_cons (pv 0) (pa_cons (pe_glob (v := .ref T.InvalidOctets) (by rfl) T.InvalidOctets_m rfl) pa_nil))) (pa_cons (pe_callB Xc.call_isEv (by rfl) T.z_isinstance (by decide +kernel) (pa_cons (pv 0) (pa_cons (pe_glob (v := .ref T.InvalidSize) (by rfl) T.InvalidSize_m rfl) pa_nil))) (pa_cons (pe_callB Xc.call_isEv (by rfl) T.z_isinstance (by decide +kernel) (pa_cons (pv 0) (pa_cons (pe_glob (v := .ref T.Refused) (by rfl) T.Refused_m rfl) pa_nil))) (pa_cons (pe_callB Xc.call_isEv (by rfl) T.z_isinstance (by decide +kernel) (pa_cons (pv 0) (pa_cons (pe_glob (v := .ref T.NoName) (by rfl) T.NoName_m rfl) pa_nil))) (pa_cons (pe_callB Xc.call_isEv (by rfl) T.z_isinstance (by decide +kernel) (pa_cons (pv 0) (pa_cons (pe_glob (v := .ref T.InvalidCommand) (by rfl) T.InvalidCommand_m rfl) pa_nil))) (pa_cons (pe_callB Xc.call_isEv (by rfl) T.z_isinstance (by decide +kernel) (pa_cons (pv 0) (pa_cons (pe_glob (v := .ref T.CaseError) (by rfl) T.CaseError_m rfl) pa_nil))) (pa_cons (pe_callB Xc.call_isEv (by rfl) T.z_isinstance (by decide +kernel) (pa_cons (pv 0) (pa_cons (pe_bltn (v := .ty "KeyError") (by rfl) T.z_KeyError boot_KeyError rfl) pa_nil))) (pa_cons (pe_callB Xc.call_isEv (by rfl) T.z_isinstance (by decide +kernel) (pa_cons (pv 0) (pa_cons (pe_bltn (v := .ty "ValueError") (by rfl) T.z_ValueError boot_ValueError rfl) pa_nil))) pa_nil)))))))))))))))))), ?_⟩
    refine ⟨_, rfl, a, cat T n, _, _, _, rfl, .own _, fi, ha, kitJ T hn (j := 0) (by decide), _, rfl, a, cat T n, _, _, _, rfl, .own _, fi, ha, kitJ T hn (j := 1) (by decide), _, rfl, a, cat T n, _, _, _, rfl, .own _, fi, ha, kitJ T hn (j := 2) (by decide),
      _, rfl, a, cat T n, _, _, _, rfl, .own _, fi, ha, kitJ T hn (j := 3) (by decide), _, rfl, a, cat T n, _, _, _, rfl, .own _, fi, ha, kitJ T hn (j := 4) (by decide), _, rfl, a, cat T n, _, _, _, rfl, .own _, fi, ha, kitJ T hn (j := 5) (by decide),
      _, rfl, a, cat T n, _, _, _, rfl, .own _, fi, ha, kitJ T hn (j := 6) (by decide), _, rfl, a, cat T n, _, _, _, rfl, .own _, fi, ha, kitJ T hn (j := 7) (by decide), _, rfl, a, cat T n, _, _, _, rfl, .own _, fi, ha, kitJ T hn (j := 8) (by decide),
      _, rfl, a, cat T n, _, _, _, rfl, .own _, fi, ha, kitJ T hn (j := 9) (by decide), _, rfl, a, cat T n, _, _, _, rfl, .own _, fi, ha, kitJ T hn (j := 10) (by decide), _, rfl, a, cat T n, _, _, _, rfl, .own _, fi, ha, kitJ T hn (j := 11) (by decide),
      _, rfl, a, cat T n, _, _, _, rfl, .own _, fi, ha, t3, _, rfl, a, cat T n, _, _, _, rfl, .ty _, fi, ha, t4, _, rfl, a, cat T n, _, _, _, rfl, .ty _, fi, ha, t5, (by show 15 ≤ sizeLine; decide), fun p np => k p _ (exn np) upd_same⟩
theorem eq_map {ys : List V} {m : Nat} {f : Nat → V} (hl : ys.length = m) (h : ∀ j y, ys[j]? = some y → y = f j) : ys = (List.range m).map f := by
  refine List.ext_getElem (by simp [hl]) fun i h1 h2 => ?_
  rw [List.getElem_map, List.getElem_range]
  exact h i _ (List.getElem?_eq_getElem h1)
theorem d10 {n : Nat} : decide (V.int n = V.int 10) = decide (n = 10) := by
  by_cases h : n = 10
  · subst h
    rfl
  · rw [decide_eq_false h, decide_eq_false (fun z => h (by have := V.int.inj z; omega))]
def spDue : Sp := fun vs H Q _ => ∃ (n : Nat), vs = [.int n] ∧ n < 12 ∧ ∀ p H', Ex H H' → H' p = some (.lst (kindsV n)) → Q (.ref p) H'
theorem ok_law_due (T : Tx K mg) : FnOk P w K mg base CX0 1 T.law_due T.law_due_fd ["number"] spDue := by
  refine T.law_due_F.ok sc_law_due (fun vs H Q E h => ?_) (fun cdv A outer s H vs Q E hr h => ?_)
  · obtain ⟨n, rfl, _⟩ := h
    rfl
  · obtain ⟨n, rfl, hn, k⟩ := h
    refine ⟨_, (pss_one (ps_ret (pe_op op_cat (pe_lc (own := [("at", 1)]) (g := gName 1) rfl sc_law_due.nd (pi_range1 (by rfl) T.z_range (pa_cons pe_int pa_nil)) (blkOk_by (own := [("at", 1)]) (N := ["number", "at"]) (sc := defScope s_law_due) (by decide +kernel)) (fun _ _ _ _ _ => pg_name (i := 1) sc_law_due.nd rfl (Or.inl rfl)) (fun _ _ _ _ _ => pts_nil) (fun _ _ _ _ _ => pe_cmpR op_eq (pv 1) (pv 0) (nomark _))) (pe_lst (pa_cons (pe_cmpR op_ne (pv 0) pe_int (nomark _)) (pa_cons (pe_cmpR op_eq (pv 0) pe_int (nomark _)) (pa_cons pe_bl pa_nil))))))), ?_⟩
    refine ⟨12, rfl, by omega, by omega, fun D nD => made_range (R := fun i y _ => y = V.bl (decide (i = n))) (fun _ _ _ _ _ r => r) (by omega) (fun i H1 hi e1 Y hY => ?_) nD (fun H1 ys e1 hD hlen hys => ?_)⟩
    · refine ⟨rfl, _, rfl, _, rfl, rfl, hY _ _ ex0 ?_⟩
      by_cases h : i = n
      · subst h
        simp
      · rw [decide_eq_false h, decide_eq_false (fun z => h (by have := V.int.inj z; omega))]
    · refine ⟨_, rfl, rfl, _, rfl, rfl, (by show 3 ≤ sizeLine; decide), fun q nq => ⟨D, q, ys, _, rfl, rfl, (upd_ne (ne_of_none hD nq)).trans hD, upd_same, (by rw [hlen]; show 12 + 3 ≤ sizeLine; decide), fun p np => k p _ (e1.trans ((exn nq).trans (exn np))) ?_⟩⟩
      rw [upd_same, eq_map (m := 12) (f := fun j => V.bl (decide (j = n))) hlen hys, d10]
      rfl
/-! ### what an error kept -/
def spKept (T : Tx K mg) : Sp := fun vs H Q _ => ∃ (n : Nat) (x y : V) (a : Addr), vs = [.int n, .ref a] ∧ n < 12 ∧ ErA T H a n x y ∧ ∀ p H', Ex H H' → H' p = some (.lst (vals n x y)) → Q (.ref p) H'
theorem ifT {A B : Prop} {b : Bool} (h : b = true) (a : A) : if b = true then A else B := by
  rw [if_pos h]
  exact a
theorem ifN {A B : Prop} {b : Bool} (h : b = false) (a : B) : if b = true then A else B := by
  rw [if_neg (by rw [h]; decide)]
  exact a
theorem ok_law_kept (T : Tx K mg) : FnOk P w K mg base CX0 1 T.law_kept T.law_kept_fd ["number", "error"] (spKept T) := by
  refine T.law_kept_F.ok sc_law_kept (fun vs H Q E h => ?_) (fun cdv A outer s H vs Q E hr h => ?_)
  · obtain ⟨n, x, y, a, rfl, _⟩ := h
    rfl
  · obtain ⟨n, x, y, a, rfl, hn, ⟨ha, hf⟩, k⟩ := h
    refine ⟨_, (pss_cons (ps_if (pt_cmpR op_in_seq (pv 0) (pe_lst (pa_cons pe_int (pa_cons pe_int (pa_cons pe_int (pa_cons pe_int (pa_cons pe_int (pa_cons pe_int pa_nil))))))) rfl) (pss_one (ps_ret (pe_lst (pa_cons (Xc.pe_erf (pv 1)) pa_nil)))) pss_nil)
      (pss_cons (ps_if (pt_cmpR op_eq (pv 0) pe_int (nomark _)) (pss_one (ps_ret (pe_lst (pa_cons (Xc.pe_erf (pv 1)) (pa_cons (Xc.pe_erf (pv 1)) pa_nil))))) pss_nil)
      (pss_cons (ps_if (pt_cmpR op_eq (pv 0) pe_int (nomark _)) (pss_one (ps_ret (pe_lst (pa_cons (Xc.pe_erf (pv 1)) pa_nil)))) pss_nil)
      (pss_cons (ps_if (pt_cmpR op_in_seq (pv 0) (pe_lst (pa_cons pe_int (pa_cons pe_int pa_nil))) rfl) (pss_one (ps_ret (pe_lst (pa_cons (Xc.pe_erf (pv 1)) pa_nil)))) pss_nil)
      (pss_cons (ps_if (pt_cmpR op_eq (pv 0) pe_int (nomark _)) (pss_one (ps_ret (pe_lst (pa_cons (Xc.pe_erf (pv 1)) pa_nil)))) pss_nil)
      (pss_one (ps_ret (pe_lst pa_nil)))))))), ?_⟩
    match n, hn with
    | 0, _ =>
      have f := hf (by decide)
      refine ⟨_, rfl, (by show 6 ≤ sizeLine; decide), fun p np => ⟨p, _, rfl, .inl (SqL.of upd_same), rfl, rfl, _, rfl, ifT (by decide) ?_⟩⟩
      obtain ⟨d, h1, h2⟩ := f
      exact ⟨_, rfl, _, _, d, _, _, rfl, (T.InvalidHeap_E).x, (T.InvalidHeap_E).no _ (by simp), exn np _ _ h1, exn np _ _ h2, rfl, (by show 1 ≤ sizeLine; decide), fun q nq => k q _ ((exn np).trans (exn nq)) upd_same⟩
    | 2, _ =>
      have f := hf (by decide)
      refine ⟨_, rfl, (by show 6 ≤ sizeLine; decide), fun p np => ⟨p, _, rfl, .inl (SqL.of upd_same), rfl, rfl, _, rfl, ifT (by decide) ?_⟩⟩
      obtain ⟨d, h1, h2⟩ := f
      exact ⟨_, rfl, _, _, d, _, _, rfl, (T.InvalidText_E).x, (T.InvalidText_E).no _ (by simp), exn np _ _ h1, exn np _ _ h2, rfl, (by show 1 ≤ sizeLine; decide), fun q nq => k q _ ((exn np).trans (exn nq)) upd_same⟩
    | 3, _ =>
      have f := hf (by decide)
      refine ⟨_, rfl, (by show 6 ≤ sizeLine; decide), fun p np => ⟨p, _, rfl, .inl (SqL.of upd_same), rfl, rfl, _, rfl, ifT (by decide) ?_⟩⟩
      obtain ⟨d, h1, h2⟩ := f
      exact ⟨_, rfl, _, _, d, _, _, rfl, (T.InvalidRun_E).x, (T.InvalidRun_E).no _ (by simp), exn np _ _ h1, exn np _ _ h2, rfl, (by show 1 ≤ sizeLine; decide), fun q nq => k q _ ((exn np).trans (exn nq)) upd_same⟩
    | 5, _ =>
      have f := hf (by decide)
      refine ⟨_, rfl, (by show 6 ≤ sizeLine; decide), fun p np => ⟨p, _, rfl, .inl (SqL.of upd_same), rfl, rfl, _, rfl, ifT (by decide) ?_⟩⟩
      obtain ⟨d, h1, h2⟩ := f
      exact ⟨_, rfl, _, _, d, _, _, rfl, (T.InvalidCarry_E).x, (T.InvalidCarry_E).no _ (by simp), exn np _ _ h1, exn np _ _ h2, rfl, (by show 1 ≤ sizeLine; decide), fun q nq => k q _ ((exn np).trans (exn nq)) upd_same⟩
    | 6, _ =>
      have f := hf (by decide)
      refine ⟨_, rfl, (by show 6 ≤ sizeLine; decide), fun p np => ⟨p, _, rfl, .inl (SqL.of upd_same), rfl, rfl, _, rfl, ifT (by decide) ?_⟩⟩
      obtain ⟨d, h1, h2⟩ := f
      exact ⟨_, rfl, _, _, d, _, _, rfl, (T.InvalidDeed_E).x, (T.InvalidDeed_E).no _ (by simp), exn np _ _ h1, exn np _ _ h2, rfl, (by show 1 ≤ sizeLine; decide), fun q nq => k q _ ((exn np).trans (exn nq)) upd_same⟩
    | 7, _ =>
      have f := hf (by decide)
      refine ⟨_, rfl, (by show 6 ≤ sizeLine; decide), fun p np => ⟨p, _, rfl, .inl (SqL.of upd_same), rfl, rfl, _, rfl, ifT (by decide) ?_⟩⟩
      obtain ⟨d, h1, h2⟩ := f
      exact ⟨_, rfl, _, _, d, _, _, rfl, (T.InvalidOctets_E).x, (T.InvalidOctets_E).no _ (by simp), exn np _ _ h1, exn np _ _ h2, rfl, (by show 1 ≤ sizeLine; decide), fun q nq => k q _ ((exn np).trans (exn nq)) upd_same⟩
    | 1, _ =>
      obtain ⟨d, h1, h2⟩ := hf (by decide)
      refine ⟨_, rfl, (by show 6 ≤ sizeLine; decide), fun p np => ⟨p, _, rfl, .inl (SqL.of upd_same), rfl, rfl, _, rfl, ifN (by decide) ⟨_, rfl, rfl, _, rfl, ifT (by decide) ?_⟩⟩⟩
      exact ⟨_, rfl, _, _, d, _, _, rfl, T.InvalidPlan_E.x, T.InvalidPlan_E.no _ (by simp), exn np _ _ h1, exn np _ _ h2, rfl, _, rfl, _, _, d, _, _, rfl, T.InvalidPlan_E.x, T.InvalidPlan_E.no _ (by simp), exn np _ _ h1, exn np _ _ h2, rfl, (by show 2 ≤ sizeLine; decide), fun q nq => k q _ ((exn np).trans (exn nq)) upd_same⟩
    | 4, _ =>
      obtain ⟨d, h1, h2⟩ := hf (by decide)
      refine ⟨_, rfl, (by show 6 ≤ sizeLine; decide), fun p np => ⟨p, _, rfl, .inl (SqL.of upd_same), rfl, rfl, _, rfl, ifN (by decide) ⟨_, rfl, rfl, _, rfl, ifN (by decide) ⟨_, rfl, rfl, _, rfl, ifT (by decide) ?_⟩⟩⟩⟩
      exact ⟨_, rfl, _, _, d, _, _, rfl, T.InvalidTerm_E.x, T.InvalidTerm_E.no _ (by simp), exn np _ _ h1, exn np _ _ h2, rfl, (by show 1 ≤ sizeLine; decide), fun q nq => k q _ ((exn np).trans (exn nq)) upd_same⟩
    | 8, _ =>
      obtain ⟨d, h1, h2⟩ := hf (by decide)
      refine ⟨_, rfl, (by show 6 ≤ sizeLine; decide), fun p np => ⟨p, _, rfl, .inl (SqL.of upd_same), rfl, rfl, _, rfl, ifN (by decide) ⟨_, rfl, rfl, _, rfl, ifN (by decide) ⟨_, rfl, rfl, _, rfl, ifN (by decide) ⟨_, rfl, (by show 2 ≤ sizeLine; decide), fun q nq => ⟨q, _, rfl, .inl (SqL.of upd_same), rfl, rfl, _, rfl, ifT (by decide) ?_⟩⟩⟩⟩⟩⟩
      exact ⟨_, rfl, _, _, d, _, _, rfl, T.InvalidSize_E.x, T.InvalidSize_E.no _ (by simp), exn nq _ _ (exn np _ _ h1), exn nq _ _ (exn np _ _ h2), rfl, (by show 1 ≤ sizeLine; decide), fun r nr => k r _ (((exn np).trans (exn nq)).trans (exn nr)) upd_same⟩
    | 9, _ =>
      obtain ⟨d, h1, h2⟩ := hf (by decide)
      refine ⟨_, rfl, (by show 6 ≤ sizeLine; decide), fun p np => ⟨p, _, rfl, .inl (SqL.of upd_same), rfl, rfl, _, rfl, ifN (by decide) ⟨_, rfl, rfl, _, rfl, ifN (by decide) ⟨_, rfl, rfl, _, rfl, ifN (by decide) ⟨_, rfl, (by show 2 ≤ sizeLine; decide), fun q nq => ⟨q, _, rfl, .inl (SqL.of upd_same), rfl, rfl, _, rfl, ifT (by decide) ?_⟩⟩⟩⟩⟩⟩
      exact ⟨_, rfl, _, _, d, _, _, rfl, T.Refused_E.x, T.Refused_E.no _ (by simp), exn nq _ _ (exn np _ _ h1), exn nq _ _ (exn np _ _ h2), rfl, (by show 1 ≤ sizeLine; decide), fun r nr => k r _ (((exn np).trans (exn nq)).trans (exn nr)) upd_same⟩
    | 10, _ =>
      obtain ⟨d, h1, h2⟩ := hf (by decide)
      refine ⟨_, rfl, (by show 6 ≤ sizeLine; decide), fun p np => ⟨p, _, rfl, .inl (SqL.of upd_same), rfl, rfl, _, rfl, ifN (by decide) ⟨_, rfl, rfl, _, rfl, ifN (by decide) ⟨_, rfl, rfl, _, rfl, ifN (by decide) ⟨_, rfl, (by show 2 ≤ sizeLine; decide), fun q nq => ⟨q, _, rfl, .inl (SqL.of upd_same), rfl, rfl, _, rfl, ifN (by decide) ⟨_, rfl, rfl, _, rfl, ifT (by decide) ?_⟩⟩⟩⟩⟩⟩⟩
      exact ⟨_, rfl, _, _, d, _, _, rfl, T.NoName_E.x, T.NoName_E.no _ (by simp), exn nq _ _ (exn np _ _ h1), exn nq _ _ (exn np _ _ h2), rfl, (by show 1 ≤ sizeLine; decide), fun r nr => k r _ (((exn np).trans (exn nq)).trans (exn nr)) upd_same⟩
    | 11, _ =>
      exact ⟨_, rfl, (by show 6 ≤ sizeLine; decide), fun p np => ⟨p, _, rfl, .inl (SqL.of upd_same), rfl, rfl, _, rfl, ifN (by decide) ⟨_, rfl, rfl, _, rfl, ifN (by decide) ⟨_, rfl, rfl, _, rfl, ifN (by decide) ⟨_, rfl, (by show 2 ≤ sizeLine; decide), fun q nq => ⟨q, _, rfl, .inl (SqL.of upd_same), rfl, rfl, _, rfl, ifN (by decide) ⟨_, rfl, rfl, _, rfl, ifN (by decide)
        ⟨(by show 0 ≤ sizeLine; decide), fun r nr => k r _ (((exn np).trans (exn nq)).trans (exn nr)) upd_same⟩⟩⟩⟩⟩⟩⟩⟩
end
end K00
set_option maxRecDepth 100000
set_option maxHeartbeats 4000000
namespace K00
open PySem PySem.Spec PyProof.Rows L2 Pre
/-! ### a list == [] -/
section
variable {X : Cx}
def rEqNil : R2 := fun x y H Q => ∃ a b xs, x = .ref a ∧ y = .ref b ∧ H a = some (.lst xs) ∧ H b = some (.lst []) ∧ Q (.bl xs.isEmpty) H
theorem isList_of {pins : List (Addr × Obj)} {σ : L2.St} {H : Hp} {s : Shared} {a : Addr} {xs : List V} (I : Inv X pins σ H s) (h : H a = some (.lst xs)) : ∃ its : List Value, Vals xs its ∧ s.heap.IsList a its.toArray := by
  obtain ⟨hz, its, n, hv, hg⟩ := I.hok a _ h
  exact ⟨its, hv, ⟨_, hg, rfl, n, rfl⟩⟩
theorem op_eqNil (hu : X.A.units < cLine) : OpR X (compareOp .Eq) rEqNil := by
  intro pins s σ H x y v u Q I rx ry h
  obtain ⟨a, b, xs, rfl, rfl, ha, hb, q⟩ := h
  obtain rfl : v = Value.ref a := rx
  obtain rfl : u = Value.ref b := ry
  obtain ⟨its, r1, l1⟩ := isList_of I ha
  obtain ⟨jts, r2, l2⟩ := isList_of I hb
  cases r2
  show wpAny _ _ (richCompare .Eq (.ref a) (.ref b)) _ _ _
  cases r1 with
  | nil => exact PySem.SeqAt.rcIn_lists (e := fun _ => true) l1 l2 rfl hu (fun j h1 _ => absurd h1 (by simp)) ⟨.bl true, H, I, rfl, q⟩
  | cons r rs => exact PySem.SeqAt.RcAt.lists_lengths l1 l2 (by simp) hu _ _ _ _ ⟨.bl false, H, I, rfl, q⟩
end
section
variable {P : Program} {w : World} {K : PySem.W.Frag} {mg : Str → Option Value} {base : Heap}
/-! ### kinds -/
inductive Kd (H : Hp) : V → Nat → Prop
  | non : Kd H .non 0
  | bl (b : Bool) : Kd H (.bl b) 1
  | int (i : Int) : Kd H (.int i) 2
  | str (s : Str) : Kd H (.str s) 3
  | lst {a : Addr} {xs : List V} (h : H a = some (.lst xs)) : Kd H (.ref a) 4
  | tup {a : Addr} {xs : List V} (h : H a = some (.tup xs)) : Kd H (.ref a) 5
theorem Kd.ex {H H' : Hp} {v : V} {j : Nat} (h : Kd H v j) (e : Ex H H') : Kd H' v j := by
  cases h with
  | non => exact .non
  | bl b => exact .bl b
  | int i => exact .int i
  | str s => exact .str s
  | lst h => exact .lst (e _ _ h)
  | tup h => exact .tup (e _ _ h)
def spKind : Sp := fun vs H Q _ => ∃ (v : V) (j : Nat), vs = [v] ∧ Kd H v j ∧ ∀ H', Ex H H' → Q (.int j) H'
theorem ok_law_kind (T : Tx K mg) : FnOk P w K mg base CX0 1 T.law_kind T.law_kind_fd ["thing"] spKind := by
  refine T.law_kind_F.ok sc_law_kind (fun vs H Q E h => ?_) (fun cdv A outer s H vs Q E hr h => ?_)
  · obtain ⟨v, j, rfl, _⟩ := h
    rfl
  · obtain ⟨v, j, rfl, hk, k⟩ := h
    refine ⟨_, (pss_cons (ps_if (pt_cmpR op_isN (pv 0) pe_non (nomark _)) (pss_one (ps_ret pe_int)) pss_nil)
      (pss_cons (ps_if (pt_val (pe_callB call_isi (by rfl) T.z_isinstance (by decide +kernel) (pa_cons (pv 0) (pa_cons (pe_bltn (v := .ty "bool") (by rfl) T.z_bool boot_bool rfl) pa_nil)))) (pss_one (ps_ret pe_int)) pss_nil)
      (pss_cons (ps_if (pt_val (pe_callB call_isi (by rfl) T.z_isinstance (by decide +kernel) (pa_cons (pv 0) (pa_cons (pe_bltn (v := .ty "int") (by rfl) T.z_int boot_int rfl) pa_nil)))) (pss_one (ps_ret pe_int)) pss_nil)
      (pss_cons (ps_if (pt_val (pe_callB call_isi (by rfl) T.z_isinstance (by decide +kernel) (pa_cons (pv 0) (pa_cons (pe_bltn (v := .ty "str") (by rfl) T.z_str boot_str rfl) pa_nil)))) (pss_one (ps_ret pe_int)) pss_nil)
      (pss_cons (ps_if (pt_val (pe_callB call_isi (by rfl) T.z_isinstance (by decide +kernel) (pa_cons (pv 0) (pa_cons (pe_bltn (v := .ty "list") (by rfl) T.z_list boot_list rfl) pa_nil)))) (pss_one (ps_ret pe_int)) pss_nil)
      (pss_one (ps_ret (pe_ix ix_list (pe_lst (pa_cons pe_int (pa_cons pe_int pa_nil))) (pe_callTy call_int1 (by rfl) T.z_int (by decide +kernel) (pa_cons (pe_callB call_isi (by rfl) T.z_isinstance (by decide +kernel) (pa_cons (pv 0) (pa_cons (pe_bltn (v := .ty "tuple") (by rfl) T.z_tuple boot_tuple rfl) pa_nil))) pa_nil)) (fun _ _ => rfl))))))))), ?_⟩
    have step : ∀ {b : Bool} {A B : Prop}, b = false → B → (if b = true then A else B) := fun h a => ifN h a
    cases hk with
    | non => exact ⟨_, rfl, rfl, _, rfl, ifT (by decide) (k _ ex0)⟩
    | bl b => exact ⟨_, rfl, rfl, _, rfl, ifN (by simp) ⟨_, rfl, _, _, _, _, true, rfl, .ty _, .base (.bl _), kit_ty (by decide +kernel), _, rfl, ifT rfl (k _ ex0)⟩⟩
    | int i => exact ⟨_, rfl, rfl, _, rfl, ifN (by simp) ⟨_, rfl, _, _, _, _, false, rfl, .ty _, .base (.int _), kit_ty (by decide +kernel), _, rfl, ifN rfl ⟨_, rfl, _, _, _, _, true, rfl, .ty _, .base (.int _), kit_ty (by decide +kernel), _, rfl, ifT rfl (k _ ex0)⟩⟩⟩
    | str s => exact ⟨_, rfl, rfl, _, rfl, ifN (by simp) ⟨_, rfl, _, _, _, _, false, rfl, .ty _, .base (.str _), kit_ty (by decide +kernel), _, rfl, ifN rfl ⟨_, rfl, _, _, _, _, false, rfl, .ty _, .base (.str _), kit_ty (by decide +kernel), _, rfl, ifN rfl
        ⟨_, rfl, _, _, _, _, true, rfl, .ty _, .base (.str _), kit_ty (by decide +kernel), _, rfl, ifT rfl (k _ ex0)⟩⟩⟩⟩
    | lst h => exact ⟨_, rfl, rfl, _, rfl, ifN (by simp) ⟨_, rfl, _, _, _, _, false, rfl, .ty _, .base (.lst h), kit_ty (by decide +kernel), _, rfl, ifN rfl ⟨_, rfl, _, _, _, _, false, rfl, .ty _, .base (.lst h), kit_ty (by decide +kernel), _, rfl, ifN rfl
        ⟨_, rfl, _, _, _, _, false, rfl, .ty _, .base (.lst h), kit_ty (by decide +kernel), _, rfl, ifN rfl ⟨_, rfl, _, _, _, _, true, rfl, .ty _, .base (.lst h), kit_ty (by decide +kernel), _, rfl, ifT rfl (k _ ex0)⟩⟩⟩⟩⟩
    | tup h => exact ⟨_, rfl, rfl, _, rfl, ifN (by simp) ⟨_, rfl, _, _, _, _, false, rfl, .ty _, .base (.tup h), kit_ty (by decide +kernel), _, rfl, ifN rfl ⟨_, rfl, _, _, _, _, false, rfl, .ty _, .base (.tup h), kit_ty (by decide +kernel), _, rfl, ifN rfl
        ⟨_, rfl, _, _, _, _, false, rfl, .ty _, .base (.tup h), kit_ty (by decide +kernel), _, rfl, ifN rfl ⟨_, rfl, _, _, _, _, false, rfl, .ty _, .base (.tup h), kit_ty (by decide +kernel), _, rfl, ifN rfl
        ⟨(by show 2 ≤ sizeLine; decide), fun p np => ⟨_, rfl, _, _, _, _, true, rfl, .ty _, .base (.tup (exn np _ _ h)), kit_ty (by decide +kernel), .inr ⟨_, rfl, p, _, _, _, rfl, rfl, SqL.of upd_same, rfl, k _ (exn np)⟩⟩⟩⟩⟩⟩⟩⟩
end
end K00
set_option maxRecDepth 100000
set_option maxHeartbeats 4000000
namespace K00
open PySem PySem.Spec PyProof.Rows L2 Pre
section
variable {P : Program} {w : World} {K : PySem.W.Frag} {mg : Str → Option Value} {base : Heap}
theorem newE {H H' : Hp} {p : Addr} {o : HO} (hg : upd H p o = H') (np : H p = none) : Ex H H' := by
  rw [← hg]
  exact exn np
theorem newP {H H' : Hp} {p : Addr} {o : HO} (hg : upd H p o = H') : H' p = some o := by
  rw [← hg]
  exact upd_same
/-! ### what is still to be compared: n things in all -/
inductive Work (H : Hp) : Nat → List (V × V) → Prop
  | nil : Work H 0 []
  | flat {x : V} {j n : Nat} {ps : List (V × V)} (k : Kd H x j) (hj : j < 4) (r : Work H n ps) : Work H (n + 1) ((x, x) :: ps)
  | lst {a b : Addr} {xs ys : List V} {n : Nat} {ps : List (V × V)} (ha : H a = some (.lst xs)) (hb : H b = some (.lst ys)) (hl : xs.length = ys.length) (r : Work H n ((xs.zip ys).reverse ++ ps)) : Work H (n + 1) ((.ref a, .ref b) :: ps)
  | tup {a b : Addr} {xs ys : List V} {n : Nat} {ps : List (V × V)} (ha : H a = some (.tup xs)) (hb : H b = some (.tup ys)) (hl : xs.length = ys.length) (r : Work H n ((xs.zip ys).reverse ++ ps)) : Work H (n + 1) ((.ref a, .ref b) :: ps)
theorem Work.ex {H H' : Hp} {n : Nat} {ps : List (V × V)} (h : Work H n ps) (e : Ex H H') : Work H' n ps := by
  induction h with
  | nil => exact .nil
  | flat k hj r ih => exact .flat (k.ex e) hj ih
  | lst ha hb hl r ih => exact .lst (e _ _ ha) (e _ _ hb) hl ih
  | tup ha hb hl r ih => exact .tup (e _ _ ha) (e _ _ hb) hl ih
theorem Work.app {H : Hp} {n m : Nat} {ps qs : List (V × V)} (h : Work H n ps) (g : Work H m qs) : Work H (n + m) (ps ++ qs) := by
  induction h with
  | nil => simpa using g
  | flat k hj r ih => rw [Nat.add_right_comm]; exact .flat k hj ih
  | lst ha hb hl r ih => rw [Nat.add_right_comm]; exact .lst ha hb hl (by rw [List.append_assoc] at ih; exact ih)
  | tup ha hb hl r ih => rw [Nat.add_right_comm]; exact .tup ha hb hl (by rw [List.append_assoc] at ih; exact ih)
theorem Work.len {H : Hp} {n : Nat} {ps : List (V × V)} (h : Work H n ps) : ps.length ≤ n := by
  induction h with
  | nil => exact Nat.le_refl _
  | flat k hj r ih => simpa using ih
  | lst ha hb hl r ih => rw [List.length_append] at ih; rw [List.length_cons]; omega
  | tup ha hb hl r ih => rw [List.length_append] at ih; rw [List.length_cons]; omega
/-- the waiting pairs as they lie in the list, the last one first here -/
inductive Pts (H : Hp) : List V → List (V × V) → Prop
  | nil : Pts H [] []
  | snoc {ts : List V} {ps : List (V × V)} {a : Addr} {x y : V} (r : Pts H ts ps) (h : H a = some (.tup [x, y])) : Pts H (ts ++ [.ref a]) ((x, y) :: ps)
theorem Pts.ext {H H' : Hp} {ts : List V} {ps : List (V × V)} (h : Pts H ts ps) (e : ExT H H') : Pts H' ts ps := by
  induction h with
  | nil => exact .nil
  | snoc r h ih => exact .snoc ih (e _ _ h)
theorem Pts.len {H : Hp} {ts : List V} {ps : List (V × V)} (h : Pts H ts ps) : ts.length = ps.length := by
  induction h with
  | nil => rfl
  | snoc r h ih => rw [List.length_append, List.length_cons, ih]; rfl
theorem rIx_of {H : Hp} {a : Addr} {xs : List V} {j : Nat} {v : V} {Q : VK} (h : SqV K H a xs) (hj : xs[j]? = some v) (q : Q v H) : rIx K (.ref a) (.int (0 + (j : Int))) H Q := by
  rw [Int.zero_add]
  rcases h with h | h
  · exact .inl ⟨a, xs, _, v, rfl, rfl, h, atI_nat hj, q⟩
  · exact .inr (.inl ⟨a, xs, _, v, rfl, rfl, h, atI_nat hj, q⟩)
theorem len_of {H : Hp} {a : Addr} {xs : List V} (h : SqV K H a xs) : LenV K (.ref a) H xs.length := by
  rcases h with h | h
  · exact .inl ⟨xs, h, rfl⟩
  · exact .inr ⟨xs, h, rfl⟩
theorem Kd.scal {H : Hp} {x : V} {j : Nat} (h : Kd H x j) (hj : j < 4) : L2.scal x x = true := by
  cases h <;> first | rfl | omega
theorem Kd.notSeq {H : Hp} {x : V} {j : Nat} (h : Kd H x j) (hj : j < 4) : ∃ t, TyX K H x (.type t) ∧ kitB t "list" = some false ∧ kitB t "tuple" = some false := by
  cases h with
  | non => exact ⟨_, .base .non, by decide +kernel, by decide +kernel⟩
  | bl b => exact ⟨_, .base (.bl _), by decide +kernel, by decide +kernel⟩
  | int i => exact ⟨_, .base (.int _), by decide +kernel, by decide +kernel⟩
  | str s => exact ⟨_, .base (.str _), by decide +kernel, by decide +kernel⟩
  | lst h => omega
  | tup h => omega
theorem take_rev {α : Type} {l : List α} {j : Nat} {p : α} (h : l[j]? = some p) : (l.take (j + 1)).reverse = p :: (l.take j).reverse := by
  rw [List.take_add_one, h]
  simp
theorem zip_get {xs ys : List V} {j : Nat} (hl : xs.length = ys.length) (hj : j < xs.length) : ∃ x y, xs[j]? = some x ∧ ys[j]? = some y ∧ (xs.zip ys)[j]? = some (x, y) := by
  refine ⟨xs[j], ys[j], List.getElem?_eq_getElem hj, List.getElem?_eq_getElem (hl ▸ hj), ?_⟩
  rw [List.getElem?_eq_getElem (by simp; omega)]
  simp
def spEqual : Sp := fun vs H Q _ => ∃ (x y : V) (n : Nat), vs = [x, y] ∧ Work H n [(x, y)] ∧ n ≤ 399 ∧ ∀ H', Ex H H' → Q (.bl true) H'
theorem ok_law_equal (T : Tx K mg) : FnOk P w K mg base CX0 2 T.law_equal T.law_equal_fd ["one", "other"] spEqual := by
  refine T.law_equal_F.ok sc_law_equal (fun vs H Q E h => ?_) (fun cdv A outer s H vs Q E hr h => ?_)
  · obtain ⟨x, y, n, rfl, _⟩ := h
    rfl
  · obtain ⟨x, y, n, rfl, hw, hn, k⟩ := h
    refine ⟨_, (pss_cons (ps_set (i := 2) sc_law_equal.nd rfl (Or.inl rfl) (pe_lst (pa_cons (pe_tup (pa_cons (pv 0) (pa_cons (pv 1) pa_nil))) pa_nil)))
      (pss_cons (ps_for PassesOwn.never rfl (pi_range1 (by rfl) T.z_range (pa_cons pe_int pa_nil)) (pg_name (i := 3) sc_law_equal.nd rfl (Or.inl rfl)) (pss_cons (ps_if (pt_cmpR (op_eqNil hr.units0) (pv 2) (pe_lst pa_nil) (nomark _)) (pss_one (ps_ret pe_bl)) pss_nil)
      (pss_cons (ps_asg (pe_bm0 PySem.F.plainAttrs_list PySem.F.slot_list_pop PySem.F.type_list_pop mt_pop (pv 2)) (pg_tup rfl (pgs_cons (pg_name (i := 4) sc_law_equal.nd rfl (Or.inl rfl)) (pgs_cons (pg_name (i := 5) sc_law_equal.nd rfl (Or.inl rfl)) pgs_nil))))
      (pss_cons (ps_if (pt_cmpR op_ne (pe_call (ok_law_kind T) (hr.mono (by decide)) (by rfl) T.law_kind_m T.law_kind_F.kp T.law_kind_b .nil pass0 (pa_cons (pv 4) pa_nil)) (pe_call (ok_law_kind T) (hr.mono (by decide)) (by rfl) T.law_kind_m T.law_kind_F.kp T.law_kind_b .nil pass0 (pa_cons (pv 5) pa_nil)) (nomark _)) (pss_one (ps_ret pe_bl)) pss_nil)
      (pss_one (ps_if (PW.pt (pw_or (pt_val (pe_callB call_isi (by rfl) T.z_isinstance (by decide +kernel) (pa_cons (pv 4) (pa_cons (pe_bltn (v := .ty "list") (by rfl) T.z_list boot_list rfl) pa_nil)))) (pw_or1 (pt_val (pe_callB call_isi (by rfl) T.z_isinstance (by decide +kernel) (pa_cons (pv 4) (pa_cons (pe_bltn (v := .ty "tuple") (by rfl) T.z_tuple boot_tuple rfl) pa_nil))))))) (pss_cons (ps_if (pt_cmpR op_ne (pe_callB call_len (by rfl) T.z_len (by decide +kernel) (pa_cons (pv 4) pa_nil)) (pe_callB call_len (by rfl) T.z_len (by decide +kernel) (pa_cons (pv 5) pa_nil)) (nomark _)) (pss_one (ps_ret pe_bl)) pss_nil)
      (pss_one (ps_for PassesOwn.never rfl (pi_range1 (by rfl) T.z_range (pa_cons (pe_callB call_len (by rfl) T.z_len (by decide +kernel) (pa_cons (pv 4) pa_nil)) pa_nil)) (pg_name (i := 6) sc_law_equal.nd rfl (Or.inl rfl)) (pss_one (ps_expr (pe_bm PySem.F.plainAttrs_list PySem.F.slot_list_append PySem.F.type_list_append mt_append (pv 2) (pa_cons (pe_tup (pa_cons (pe_ix ix_seq (pv 4) (pv 6) (fun _ _ => rfl)) (pa_cons (pe_ix ix_seq (pv 5) (pv 6) (fun _ _ => rfl)) pa_nil))) pa_nil))))))) (pss_one (ps_if (pt_cmpR op_ne (pv 4) (pv 5) (nomark _)) (pss_one (ps_ret pe_bl)) pss_nil))))))))
      (pss_one (ps_ret pe_bl)))), ?_⟩
    refine ⟨_, rfl, _, rfl, (by show 2 ≤ sizeLine; decide), fun t nt => ⟨(by show 1 ≤ sizeLine; decide), fun wt nw => ?_⟩⟩
    generalize hg : upd (upd H t _) wt _ = H1
    have e1 : Ex (upd H t (.tup [x, y])) H1 := newE hg nw
    have h1 := newP hg
    have E1 : Ex H H1 := (exn nt).trans e1
    have nw0 : H wt = none := Evl.fresh_back (exn nt) nw
    have ht1 : H1 t = some (.tup [x, y]) := e1 _ _ upd_same
    refine ⟨400, rfl, by decide, by decide, for_range (lo := 0) (n := 400) (fun i σ' H' => ∃ v1 v2 v3 v4 ts ps m, σ' = [some x, some y, some (.ref wt), v1, v2, v3, v4] ∧ Ex H H' ∧ H' wt = some (.lst ts) ∧ Pts H' ts ps ∧ Work H m ps ∧ m + i = n) ?_ ?_ ?_⟩
    · exact ⟨none, none, none, none, _, _, n, rfl, E1, h1, .snoc (ts := []) .nil ht1, hw, rfl⟩
    · rintro i σ' H' hi ⟨v1, v2, v3, v4, ts, ps, m, rfl, E', hwt, hp, hW, hm⟩
      refine ⟨_, rfl, (by show 0 ≤ sizeLine; decide), fun q nq => ⟨wt, q, ts, rfl, rfl, (upd_ne (ne_of_none hwt nq)).trans hwt, upd_same, _, rfl, ?_⟩⟩
      cases hp with
      | nil => exact ifT rfl (k _ (E'.trans (exn nq)))
      | @snoc ts' ps' a u v hp ha =>
        refine ifN (by simp) ⟨_, rfl, .inl ⟨rfl, _, SqL.of ((upd_ne (ne_of_none hwt nq)).trans hwt)⟩, wt, ts' ++ [.ref a], .ref a, rfl, rfl, (upd_ne (ne_of_none hwt nq)).trans hwt, (by simp), ?_⟩
        rw [List.dropLast_concat]
        have x2 : ExT H' (upd H' q (.lst [])) := ExT.of (exn nq)
        have hwq := (upd_ne (ne_of_none hwt nq) (o := .lst [])).trans hwt
        have E2 : Ex H (upd (upd H' q (.lst [])) wt (.lst ts')) := Evl.Ex.mut (E'.trans (exn nq)) nw0
        have x3 : ExT H' (upd (upd H' q (.lst [])) wt (.lst ts')) := fun p ys h => ExT.lst hwq _ _ (x2 _ _ h)
        generalize hg3 : upd (upd H' q (.lst [])) wt (.lst ts') = H3 at E2 x3
        have hw3 : H3 wt = some (.lst ts') := newP hg3
        have hp3 : Pts H3 ts' ps' := hp.ext x3
        refine ⟨a, _, rfl, SqT.of (x3 _ _ ha), rfl, u, _, rfl, v, _, rfl, rfl, ?_⟩
        cases hW with
        | flat kd hj r =>
          rename_i j m
          refine ⟨_, rfl, _, j, rfl, kd.ex E2, fun H4 e4 => ⟨_, rfl, _, j, rfl, kd.ex (E2.trans e4), fun H5 e5 => ⟨rfl, _, rfl, ifN (by simp) ?_⟩⟩⟩
          obtain ⟨t, ht, k1, k2⟩ := (kd.ex ((E2.trans e4).trans e5)).notSeq (K := K) hj
          refine ⟨_, rfl, _, _, _, _, false, rfl, .ty _, ht, kit_ty k1, _, rfl, ifN rfl ⟨_, rfl, _, _, _, _, false, rfl, .ty _, ht, kit_ty k2, _, rfl, ifN rfl ⟨_, rfl, _, rfl, kd.scal hj, _, rfl, ifN (by simp) ?_⟩⟩⟩
          exact ⟨_, _, _, _, ts', ps', m, rfl, E2.trans (e4.trans e5), e4.trans e5 _ _ hw3, hp3.ext (ExT.of (e4.trans e5)), r, by omega⟩
        | @lst a1 b1 xs ys m _ hxa hxb hl r =>
          have A : SqV K H a1 xs := .inl (SqL.of hxa)
          have B : SqV K H b1 ys := .inl (SqL.of hxb)
          refine ⟨_, rfl, _, 4, rfl, (Kd.lst hxa).ex E2, fun H4 e4 => ⟨_, rfl, _, 4, rfl, (Kd.lst hxb).ex (E2.trans e4), fun H5 e5 => ⟨rfl, _, rfl, ifN (by simp) ?_⟩⟩⟩
          have E5 : Ex H H5 := E2.trans (e4.trans e5)
          refine ⟨_, rfl, _, _, _, _, true, rfl, .ty _, .base (.lst (E5 _ _ hxa)), kit_ty (by decide +kernel), _, rfl, ifT rfl (ifT rfl ?_)⟩
          have lx : xs.length ≤ 400 := by
            have z := r.len
            simp at z
            omega
          refine ⟨_, rfl, _, xs.length, rfl, len_of (A.ex E5), _, rfl, _, ys.length, rfl, len_of (B.ex E5), rfl, _, rfl, ifN (by simp [hl]) ?_⟩
          refine ⟨_, rfl, _, xs.length, rfl, len_of (A.ex E5), _, rfl, by omega, by omega, for_range (lo := 0) (fun j σ' H' => ∃ v ts2, σ' = [some x, some y, some (.ref wt), some (.int (0 + (i : Int))), some (.ref a1), some (.ref b1), v] ∧ Ex H H' ∧ H' wt = some (.lst ts2) ∧ Pts H' ts2 (((xs.zip ys).take j).reverse ++ ps')) ?_ ?_ ?_⟩
          · exact ⟨_, ts', rfl, E5, e4.trans e5 _ _ hw3, by simpa using hp3.ext (ExT.of (e4.trans e5))⟩
          · rintro j σ' H6 hj ⟨v, ts2, rfl, E6, hw6, hp6⟩
            have hj' : j < xs.length := by simpa using hj
            obtain ⟨x1, y1, gx, gy, gz⟩ := zip_get hl hj'
            have lz : ts2.length < sizeLine := by
              have z := hp6.len
              have z2 := r.len
              simp at z z2
              rw [z, sizeLine_eq]
              omega
            refine ⟨_, rfl, .inl ⟨rfl, _, SqL.of hw6⟩, _, rfl, _, rfl, rIx_of (A.ex E6) gx ⟨_, rfl, _, rfl, rIx_of (B.ex E6) gy ⟨(by show 2 ≤ sizeLine; decide), fun q nq => ⟨wt, ts2, _, rfl, rfl, (upd_ne (ne_of_none hw6 nq)).trans hw6, lz, ?_⟩⟩⟩⟩
            have hq6 := (upd_ne (ne_of_none hw6 nq) (o := .tup [x1, y1])).trans hw6
            refine ⟨_, _, rfl, Evl.Ex.mut (E6.trans (exn nq)) nw0, upd_same, ?_⟩
            rw [take_rev gz]
            refine .snoc ((hp6.ext (ExT.of (exn nq))).ext (ExT.lst hq6)) ?_
            exact ExT.lst hq6 _ _ upd_same
          · rintro σ' H6 ⟨v, ts2, rfl, E6, hw6, hp6⟩
            refine ⟨_, _, _, _, ts2, _, m, rfl, E6, hw6, ?_, r, by omega⟩
            have z : (xs.zip ys).take (Int.toNat (xs.length : Int)) = xs.zip ys := List.take_of_length_le (by simp; omega)
            rw [z] at hp6
            exact hp6
        | @tup a1 b1 xs ys m _ hxa hxb hl r =>
          have A : SqV K H a1 xs := .inr (SqT.of hxa)
          have B : SqV K H b1 ys := .inr (SqT.of hxb)
          refine ⟨_, rfl, _, 5, rfl, (Kd.tup hxa).ex E2, fun H4 e4 => ⟨_, rfl, _, 5, rfl, (Kd.tup hxb).ex (E2.trans e4), fun H5 e5 => ⟨rfl, _, rfl, ifN (by simp) ?_⟩⟩⟩
          have E5 : Ex H H5 := E2.trans (e4.trans e5)
          refine ⟨_, rfl, _, _, _, _, false, rfl, .ty _, .base (.tup (E5 _ _ hxa)), kit_ty (by decide +kernel), _, rfl, ifN rfl ⟨_, rfl, _, _, _, _, true, rfl, .ty _, .base (.tup (E5 _ _ hxa)), kit_ty (by decide +kernel), _, rfl, ifT rfl ?_⟩⟩
          have lx : xs.length ≤ 400 := by
            have z := r.len
            simp at z
            omega
          refine ⟨_, rfl, _, xs.length, rfl, len_of (A.ex E5), _, rfl, _, ys.length, rfl, len_of (B.ex E5), rfl, _, rfl, ifN (by simp [hl]) ?_⟩
          refine ⟨_, rfl, _, xs.length, rfl, len_of (A.ex E5), _, rfl, by omega, by omega, for_range (lo := 0) (fun j σ' H' => ∃ v ts2, σ' = [some x, some y, some (.ref wt), some (.int (0 + (i : Int))), some (.ref a1), some (.ref b1), v] ∧ Ex H H' ∧ H' wt = some (.lst ts2) ∧ Pts H' ts2 (((xs.zip ys).take j).reverse ++ ps')) ?_ ?_ ?_⟩
          · exact ⟨_, ts', rfl, E5, e4.trans e5 _ _ hw3, by simpa using hp3.ext (ExT.of (e4.trans e5))⟩
          · rintro j σ' H6 hj ⟨v, ts2, rfl, E6, hw6, hp6⟩
            have hj' : j < xs.length := by simpa using hj
            obtain ⟨x1, y1, gx, gy, gz⟩ := zip_get hl hj'
            have lz : ts2.length < sizeLine := by
              have z := hp6.len
              have z2 := r.len
              simp at z z2
              rw [z, sizeLine_eq]
              omega
            refine ⟨_, rfl, .inl ⟨rfl, _, SqL.of hw6⟩, _, rfl, _, rfl, rIx_of (A.ex E6) gx ⟨_, rfl, _, rfl, rIx_of (B.ex E6) gy ⟨(by show 2 ≤ sizeLine; decide), fun q nq => ⟨wt, ts2, _, rfl, rfl, (upd_ne (ne_of_none hw6 nq)).trans hw6, lz, ?_⟩⟩⟩⟩
            have hq6 := (upd_ne (ne_of_none hw6 nq) (o := .tup [x1, y1])).trans hw6
            refine ⟨_, _, rfl, Evl.Ex.mut (E6.trans (exn nq)) nw0, upd_same, ?_⟩
            rw [take_rev gz]
            refine .snoc ((hp6.ext (ExT.of (exn nq))).ext (ExT.lst hq6)) ?_
            exact ExT.lst hq6 _ _ upd_same
          · rintro σ' H6 ⟨v, ts2, rfl, E6, hw6, hp6⟩
            refine ⟨_, _, _, _, ts2, _, m, rfl, E6, hw6, ?_, r, by omega⟩
            have z : (xs.zip ys).take (Int.toNat (xs.length : Int)) = xs.zip ys := List.take_of_length_le (by simp; omega)
            rw [z] at hp6
            exact hp6
    · rintro σ' H' ⟨v1, v2, v3, v4, ts, ps, m, rfl, E', hwt, hp, hW, hm⟩
      omega
end
end K00
set_option maxRecDepth 100000
set_option maxHeartbeats 4000000
namespace K00
open PySem PySem.Spec PyProof.Rows L2 Pre
section
variable {P : Program} {w : World} {K : PySem.W.Frag} {mg : Str → Option Value} {base : Heap}
/-! ### the box: three numbers, not below 0, and no more is known of them -/
def BoxP : List V → Prop := fun xs => ∃ c m j : Int, xs = [.int c, .int m, .int j] ∧ 0 ≤ c ∧ 0 ≤ m ∧ 0 ≤ j
def BoxAt (H : Hp) (b : Addr) : Prop := H b = some (LstX b BoxP)
theorem BoxAt.ex {H H' : Hp} {b : Addr} (h : BoxAt H b) (e : Ex H H') : BoxAt H' b := e _ _ h
/-- the box is open, all else stands -/
structure Open (H : Hp) (b : Addr) (c m j : Int) (H' : Hp) : Prop where
  hb : H' b = some (.lst [.int c, .int m, .int j])
  c0 : 0 ≤ c
  m0 : 0 ≤ m
  j0 : 0 ≤ j
  off : ∀ x o, H x = some o → x ≠ b → H' x = some o
theorem Open.set {H H' : Hp} {b : Addr} {c m j c' m' j' : Int} {xs : List V} (S : Open H b c m j H') (e : xs = [.int c', .int m', .int j']) (h1 : 0 ≤ c') (h2 : 0 ≤ m') (h3 : 0 ≤ j') : Open H b c' m' j' (upd H' b (.lst xs)) :=
  ⟨by rw [e]; exact upd_same, h1, h2, h3, fun x o h ne => by rw [upd_ne ne]; exact S.off x o h ne⟩
theorem Open.close {H H' : Hp} {b : Addr} {c m j : Int} (S : Open H b c m j H') (h : BoxAt H b) : Ex H (upd H' b (LstX b BoxP)) := fun x o hx => by
  by_cases e : x = b
  · subst e
    rw [upd_same]
    exact h.symm.trans hx
  · rw [upd_ne e]
    exact S.off x o hx e
def spTake : Sp := fun vs H Q _ => ∃ (b : Addr) (many : Int), vs = [.ref b, .int many] ∧ BoxAt H b ∧ 1 ≤ many ∧ many ≤ 1000 ∧ ∀ r H', Ex H H' → 0 ≤ r → r < many → Q (.int r) H'
theorem ok_law_take (T : Tx K mg) : FnOk P w K mg base CX0 1 T.law_take T.law_take_fd ["box", "many"] spTake := by
  refine T.law_take_F.ok sc_law_take (fun vs H Q E h => ?_) (fun cdv A outer s H vs Q E hr h => ?_)
  · obtain ⟨b, many, rfl, _⟩ := h
    rfl
  · obtain ⟨b, many, rfl, hb, h1, h2, k⟩ := h
    refine ⟨_, (Pre.pss_open (pss_cons (ps_if (pt_cmpR op_gt (pe_ix ix_list (pv 0) pe_int (fun _ _ => rfl)) pe_int (nomark _)) (pss_cons (ps_set (i := 2) sc_law_take.nd rfl (Or.inl rfl) (pe_op op_mod (pe_callTy call_int1 (by rfl) T.z_int (by decide +kernel) (pa_cons (pe_ix ix_list (pv 0) pe_int (fun _ _ => rfl)) pa_nil)) (pv 1)))
      (pss_cons (ps_asg (pe_op op_fdiv (pe_ix ix_list (pv 0) pe_int (fun _ _ => rfl)) (pv 1)) (pg_sub (pv 0) pe_int set_list))
      (pss_one (ps_ret (Pre.pe_close (pv 2)))))) pss_nil)
      (pss_cons (ps_asg (pe_op op_add (pe_ix ix_list (pv 0) pe_int (fun _ _ => rfl)) pe_int) (pg_sub (pv 0) pe_int set_list))
      (pss_cons (ps_set (i := 3) sc_law_take.nd rfl (Or.inl rfl) (pe_op op_mod (pe_callTy call_int1 (by rfl) T.z_int (by decide +kernel) (pa_cons (pe_op op_add (pe_op op_mul (pe_op op_add (pe_ix ix_list (pv 0) pe_int (fun _ _ => rfl)) (pe_op op_mul pe_int (pe_ix ix_list (pv 0) pe_int (fun _ _ => rfl)))) pe_int) pe_int) pa_nil)) pe_int))
      (pss_cons (ps_asg (pe_op op_add (pe_op op_mod (pe_callTy call_int1 (by rfl) T.z_int (by decide +kernel) (pa_cons (pe_op op_add (pe_op op_mul (pv 3) pe_int) pe_int) pa_nil)) pe_int) pe_int) (pg_sub (pv 0) pe_int set_list))
      (pss_one (ps_ret (Pre.pe_close (pe_op op_mod (pe_callTy call_int1 (by rfl) T.z_int (by decide +kernel) (pa_cons (pe_op op_fdiv (pe_op op_add (pe_op op_mul (pv 3) pe_int) (pe_ix ix_list (pv 0) pe_int (fun _ _ => rfl))) pe_int) pa_nil)) (pv 1)))))))))), ?_⟩
    refine ⟨b, BoxP, hb, fun xs ⟨c, m, j, ex, c0, m0, j0⟩ _ => ?_⟩
    subst ex
    have S : Open H b c m j (upd H b (.lst [.int c, .int m, .int j])) := ⟨upd_same, c0, m0, j0, fun x o h ne => by rw [upd_ne ne]; exact h⟩
    generalize upd H b (.lst [.int c, .int m, .int j]) = H0 at S ⊢
    refine ⟨_, rfl, b, _, _, _, rfl, rfl, SqL.of S.hb, rfl, _, _, rfl, rfl, _, rfl, ite2 (fun hc => ?_) (fun hc => ?_)⟩
    · refine ⟨_, rfl, b, _, _, _, rfl, rfl, SqL.of S.hb, rfl, .inl ⟨_, rfl, _, rfl, _, _, rfl, rfl, (by show (0 : Int) < many; omega), ?_⟩⟩
      refine ⟨_, rfl, b, _, _, _, rfl, rfl, SqL.of S.hb, rfl, _, rfl, _, _, rfl, rfl, ⟨by omega, by omega⟩, _, rfl, b, _, _, 0, rfl, rfl, S.hb, rfl, ?_⟩
      have S2 := S.set (xs := [V.int (c / many), .int m, .int j]) rfl (Int.ediv_nonneg c0 (by omega)) m0 j0
      exact ⟨_, rfl, b, BoxP, _, S2.hb, ⟨_, _, _, rfl, S2.c0, S2.m0, S2.j0⟩, k _ _ (S2.close hb) (Int.emod_nonneg _ (by omega)) (Int.emod_lt_of_pos _ (by omega))⟩
    · refine ⟨_, rfl, b, _, _, _, rfl, rfl, SqL.of S.hb, atI_nat (j := 2) rfl, _, _, rfl, rfl, _, rfl, b, _, _, 2, rfl, rfl, S.hb, rfl, ?_⟩
      have S2 := S.set (xs := [V.int c, .int m, .int (j + 1)]) (j' := j + 1) rfl c0 m0 (by omega)
      generalize hg2 : upd H0 b _ = H2 at S2
      have e2 : upd H0 b (.lst ([V.int c, .int m, .int j].set 2 (.int (j + 1)))) = H2 := hg2
      rw [e2]
      clear hg2 e2
      refine ⟨_, rfl, b, _, _, _, rfl, rfl, SqL.of S2.hb, atI_nat (j := 1) rfl, _, rfl, b, _, _, _, rfl, rfl, SqL.of S2.hb, atI_nat (j := 2) rfl, _, _, rfl, rfl, .inl ⟨by decide, by decide⟩, _, _, rfl, rfl, _, _, rfl, rfl, .inr ⟨by decide, by decide⟩, _, _, rfl, rfl,
        .inl ⟨_, rfl, _, _, rfl, rfl, (by show (0 : Int) < 2147483563; decide), ?_⟩⟩
      refine ⟨_, rfl, _, _, rfl, rfl, .inr ⟨by decide, by decide⟩, _, _, rfl, rfl, .inl ⟨_, rfl, _, _, rfl, rfl, (by show (0 : Int) < 2147483629; decide), _, _, rfl, rfl, _, rfl, b, _, _, 1, rfl, rfl, S2.hb, rfl, ?_⟩⟩
      have m1 : 0 ≤ ((((m + 70001 * (j + 1)) * 61211 + 37) % 2147483563) * 38011 + 23057) % 2147483629 + 1 := by
        have := Int.emod_nonneg ((((m + 70001 * (j + 1)) * 61211 + 37) % 2147483563) * 38011 + 23057) (show (2147483629 : Int) ≠ 0 by decide)
        omega
      have S3 := S2.set (xs := [V.int c, .int (((((m + 70001 * (j + 1)) * 61211 + 37) % 2147483563) * 38011 + 23057) % 2147483629 + 1), .int (j + 1)]) rfl c0 m1 (by omega)
      refine ⟨_, rfl, _, _, rfl, rfl, .inr ⟨by decide, by decide⟩, _, rfl, b, _, _, _, rfl, rfl, SqL.of S3.hb, atI_nat (j := 1) rfl, _, _, rfl, rfl, _, _, rfl, rfl, ⟨by decide, by decide⟩, .inl ⟨_, rfl, _, rfl, _, _, rfl, rfl, (by show (0 : Int) < many; omega), b, BoxP, _, S3.hb, ⟨_, _, _, rfl, c0, m1, by omega⟩,
        k _ _ (S3.close hb) (Int.emod_nonneg _ (by omega)) (Int.emod_lt_of_pos _ (by omega))⟩⟩
def spPick : Sp := fun vs H Q _ => ∃ (b l : Addr) (xs : List V), vs = [.ref b, .ref l] ∧ BoxAt H b ∧ H l = some (.lst xs) ∧ 1 ≤ xs.length ∧ xs.length ≤ 1000 ∧ ∀ v H', Ex H H' → v ∈ xs → Q v H'
theorem ok_law_pick (T : Tx K mg) : FnOk P w K mg base CX0 2 T.law_pick T.law_pick_fd ["box", "some"] spPick := by
  refine T.law_pick_F.ok sc_law_pick (fun vs H Q E h => ?_) (fun cdv A outer s H vs Q E hr h => ?_)
  · obtain ⟨b, l, xs, rfl, _⟩ := h
    rfl
  · obtain ⟨b, l, xs, rfl, hb, hl, h1, h2, k⟩ := h
    refine ⟨_, (pss_one (ps_ret (pe_ix ix_list (pv 1) (pe_call (ok_law_take T) (hr.mono (by decide)) (by rfl) T.law_take_m T.law_take_F.kp T.law_take_b .nil pass0 (pa_cons (pv 0) (pa_cons (pe_callB call_len (by rfl) T.z_len (by decide +kernel) (pa_cons (pv 1) pa_nil)) pa_nil))) (fun _ _ => rfl)))), ?_⟩
    refine ⟨_, rfl, _, rfl, _, rfl, _, xs.length, rfl, .inl ⟨xs, SqL.of hl, rfl⟩, b, xs.length, rfl, hb, by omega, by omega, fun r H' e r0 r1 => ?_⟩
    obtain ⟨n, rfl⟩ := Int.eq_ofNat_of_zero_le r0
    have hn : n < xs.length := by omega
    exact ⟨l, xs, _, _, rfl, rfl, SqL.of (e _ _ hl), atI_nat (List.getElem?_eq_getElem hn), k _ _ e (List.getElem_mem hn)⟩
end
end K00
set_option maxRecDepth 100000
set_option maxHeartbeats 4000000
namespace K00
open PySem PySem.Spec PyProof.Rows L2 Pre
section
variable {P : Program} {w : World} {K : PySem.W.Frag} {mg : Str → Option Value} {base : Heap}
theorem ix2 (b : Bool) (c : Int) : atI [V.int 0, V.int c] (if b = true then 1 else 0) = some (.int (if b = true then c else 0)) := by cases b <;> rfl
def spBox (K : PySem.W.Frag) : Sp := fun vs H Q _ => ∃ (a : Addr) (ns : List Int), vs = [.ref a, .int 0] ∧ SqL K H a (ns.map V.int) ∧ ns.length ≤ 63 ∧ ∀ b H', Ex H H' → BoxAt H' b → Q (.ref b) H'
theorem ok_law_box (T : Tx K mg) : FnOk P w K mg base CX0 1 T.law_box T.law_box_fd ["script", "k"] (spBox K) := by
  refine T.law_box_F.ok sc_law_box (fun vs H Q E h => ?_) (fun cdv A outer s H vs Q E hr h => ?_)
  · obtain ⟨a, ns, rfl, _⟩ := h
    rfl
  · obtain ⟨a, ns, rfl, ha, hl, k⟩ := h
    refine ⟨_, (pss_cons (ps_set (i := 2) sc_law_box.nd rfl (Or.inl rfl) (pe_op op_add (pe_op op_mul pe_int (pv 1)) pe_int))
      (Evl.pss_cut (ps_if (pt_cmpR op_lt (pv 1) (pe_callB call_len (by rfl) T.z_len (by decide +kernel) (pa_cons (pv 0) pa_nil)) (nomark _)) (pss_one (ps_set (i := 2) sc_law_box.nd rfl (Or.inl rfl) (pe_callB call_abs (by rfl) T.z_abs (by decide +kernel) (pa_cons (pe_ix ix_list (pv 0) (pv 1) (fun _ _ => rfl)) pa_nil)))) (pss_one (ps_if (pt_cmpR op_gt (pe_callB call_len (by rfl) T.z_len (by decide +kernel) (pa_cons (pv 0) pa_nil)) pe_int (nomark _)) (pss_one (ps_set (i := 2) sc_law_box.nd rfl (Or.inl rfl) (pe_op op_add (pv 2) (pe_op op_mul (pe_op op_mod (pe_callTy call_int1 (by rfl) T.z_int (by decide +kernel) (pa_cons (pe_callB call_abs (by rfl) T.z_abs (by decide +kernel) (pa_cons (pe_ix ix_list (pv 0) (pe_op op_mod (pe_callTy call_int1 (by rfl) T.z_int (by decide +kernel) (pa_cons (pv 1) pa_nil)) (pe_callB call_len (by rfl) T.z_len (by decide +kernel) (pa_cons (pv 0) pa_nil))) (fun _ _ => rfl)) pa_nil)) pa_nil)) pe_int) pe_int)))) pss_nil)))
      (pss_one (ps_ret (Pre.pe_close (pe_lst (pa_cons (pe_ix ix_list (pe_lst (pa_cons pe_int (pa_cons (pv 2) pa_nil))) (pe_callTy call_int1 (by rfl) T.z_int (by decide +kernel) (pa_cons (pe_cmpR op_ge (pv 2) (pe_op op_pow pe_int pe_int) (nomark _)) pa_nil)) (fun _ _ => rfl)) (pa_cons (pe_op op_add (pe_op op_mod (pe_callTy call_int1 (by rfl) T.z_int (by decide +kernel) (pa_cons (pe_op op_add (pe_op op_mul (pe_op op_mod (pe_callTy call_int1 (by rfl) T.z_int (by decide +kernel) (pa_cons (pv 2) pa_nil)) pe_int) pe_int) (pe_op op_mul pe_int (pv 1))) pa_nil)) pe_int) pe_int) (pa_cons pe_int pa_nil))))))))), ?_⟩
    refine ⟨_, rfl, _, _, rfl, rfl, .inl ⟨by decide, by decide⟩, _, _, rfl, rfl, ?_⟩
    refine ⟨fun σ H' => ∃ c : Int, σ = [some (.ref a), some (.int 0), some (.int c)] ∧ H' = H ∧ 0 ≤ c, ?_, ?_⟩
    · refine ⟨_, rfl, _, rfl, _, ns.length, rfl, .inl ⟨_, ha, by simp⟩, _, _, rfl, rfl, _, rfl, ite2 (fun hc => ?_) (fun hc => ?_)⟩
      · cases ns with
        | nil => exact absurd (of_decide_eq_true hc) (by simp)
        | cons m ms => exact ⟨_, rfl, _, rfl, a, _, _, .int m, rfl, rfl, ha, atI_nat (j := 0) rfl, _, rfl, _, rfl, rfl, by split <;> omega⟩
      · have h0 : ns.length = 0 := by
          have z : ¬ (0 : Int) < (ns.length : Int) := fun z => hc (decide_eq_true z)
          omega
        refine ⟨_, rfl, _, ns.length, rfl, .inl ⟨_, ha, by simp⟩, _, _, rfl, rfl, _, rfl, ite2 (fun hd => ?_) (fun hd => ⟨_, rfl, rfl, by decide⟩)⟩
        have z := of_decide_eq_true hd
        omega
    · rintro σ H' ⟨c, rfl, rfl, c0⟩
      have m0 : 0 ≤ (c % 2147483629 * 44017 + 53089 * 0) % 2147483629 + 1 := by
        have := Int.emod_nonneg (c % 2147483629 * 44017 + 53089 * 0) (show (2147483629 : Int) ≠ 0 by decide)
        omega
      refine ⟨_, rfl, (by show 2 ≤ sizeLine; decide), fun p np => ⟨_, rfl, _, _, rfl, rfl, (by show (0 : Int) ≤ 18 ∧ (18 : Int) ≤ 1000000 ∧ (10 : Int).natAbs < 2 ^ 64; decide), _, _, rfl, rfl, .inr ⟨_, rfl, p, _, _, _, rfl, rfl, SqL.of upd_same, ix2 _ c, ?_⟩⟩⟩
      refine ⟨_, rfl, .inl ⟨_, rfl, _, _, rfl, rfl, (by show (0 : Int) < 2147483629; decide), _, _, rfl, rfl, .inr ⟨by decide, by decide⟩, _, rfl, _, _, rfl, rfl, .inl ⟨by decide, by decide⟩, _, _, rfl, rfl, .inl ⟨_, rfl, _, _, rfl, rfl, (by show (0 : Int) < 2147483629; decide), _, _, rfl, rfl,
        (by show 3 ≤ sizeLine; decide), fun q nq => ⟨q, BoxP, _, upd_same, ⟨_, _, _, rfl, (by split <;> omega), m0, by decide⟩, k q _ (Evl.Ex.mut ((exn np).trans (exn nq)) (Evl.fresh_back (exn np) nq)) upd_same⟩⟩⟩⟩
end
end K00
set_option maxRecDepth 100000
set_option maxHeartbeats 4000000
namespace K00
open PySem PySem.Spec PyProof.Rows L2 Pre
section
variable {P : Program} {w : World} {K : PySem.W.Frag} {mg : Str → Option Value} {base : Heap}
/-- a thing with at most n things in it, itself among them -/
def Nd (H : Hp) (n : Nat) (v : V) : Prop := ∃ m, m ≤ n ∧ Work H m [(v, v)]
theorem Nd.ex {H H' : Hp} {n : Nat} {v : V} (h : Nd H n v) (e : Ex H H') : Nd H' n v := by
  obtain ⟨m, hm, hw⟩ := h
  exact ⟨m, hm, hw.ex e⟩
theorem nd_flat {H : Hp} {v : V} {j : Nat} (h : Kd H v j) (hj : j < 4) : Nd H 1 v := ⟨1, Nat.le_refl _, .flat h hj .nil⟩
theorem nd_nil {H : Hp} {a : Addr} (h : H a = some (.tup [])) : Nd H 1 (.ref a) := ⟨1, Nat.le_refl _, .tup h h rfl .nil⟩
theorem nd_l1 {H : Hp} {a : Addr} {v : V} {n : Nat} (h : H a = some (.lst [v])) (d : Nd H n v) : Nd H (n + 2) (.ref a) := by
  obtain ⟨m, hm, hw⟩ := d
  exact ⟨m + 1, by omega, .lst h h rfl hw⟩
theorem nd_t1 {H : Hp} {a : Addr} {v : V} {n : Nat} (h : H a = some (.tup [v])) (d : Nd H n v) : Nd H (n + 2) (.ref a) := by
  obtain ⟨m, hm, hw⟩ := d
  exact ⟨m + 1, by omega, .tup h h rfl hw⟩
theorem nd_l2 {H : Hp} {a : Addr} {v u : V} {n j : Nat} (h : H a = some (.lst [v, u])) (d : Nd H n v) (k : Kd H u j) (hj : j < 4) : Nd H (n + 2) (.ref a) := by
  obtain ⟨m, hm, hw⟩ := d
  exact ⟨m + 1 + 1, by omega, .lst h h rfl (.flat k hj hw)⟩
theorem nd_t2 {H : Hp} {a : Addr} {v u : V} {n j : Nat} (h : H a = some (.tup [u, v])) (d : Nd H n v) (k : Kd H u j) (hj : j < 4) : Nd H (n + 2) (.ref a) := by
  obtain ⟨m, hm, hw⟩ := d
  exact ⟨m + 1 + 1, by omega, .tup h h rfl (hw.app (.flat k hj .nil))⟩
theorem nd_m2 {H : Hp} {a : Addr} {v u : V} {n j : Nat} (h : H a = some (.lst [u, v])) (d : Nd H n v) (k : Kd H u j) (hj : j < 4) : Nd H (n + 2) (.ref a) := by
  obtain ⟨m, hm, hw⟩ := d
  exact ⟨m + 1 + 1, by omega, .lst h h rfl (hw.app (.flat k hj .nil))⟩
theorem sev_text : ∃ n : Int, intText? (Lg.repS (Str.ofString "7") 4000) = some n := by
  have e : Str.ofString "7" = ⟨#[55]⟩ := by decide +kernel
  rw [e, Lg.repS_one]
  refine ⟨_, SX.int_S (a := List.replicate 4000 55) ?_ ?_ ?_⟩
  · rw [List.all_eq_true]
    intro c hc
    rw [(List.mem_replicate.mp hc).2]
    decide
  · intro z
    have := congrArg List.length z
    rw [List.length_replicate] at this
    cases this
  · rw [List.length_replicate]
    decide
def spThing : Sp := fun vs H Q _ => ∃ (b : Addr), vs = [.ref b] ∧ BoxAt H b ∧ ∀ v H', Ex H H' → Nd H' 160 v → Q v H'
theorem ok_law_thing (T : Tx K mg) : FnOk P w K mg base CX0 3 T.law_thing T.law_thing_fd ["box"] spThing := by
  refine T.law_thing_F.ok sc_law_thing (fun vs H Q E h => ?_) (fun cdv A outer s H vs Q E hr h => ?_)
  · obtain ⟨b, rfl, _⟩ := h
    rfl
  · obtain ⟨b, rfl, hb, k⟩ := h
    refine ⟨_, (pss_cons (ps_set (i := 1) sc_law_thing.nd rfl (Or.inl rfl) (pe_call (ok_law_pick T) (hr.mono (by decide)) (by rfl) T.law_pick_m T.law_pick_F.kp T.law_pick_b .nil pass0 (pa_cons (pv 0) (pa_cons (pe_lst (pa_cons pe_int (pa_cons pe_int (pa_cons (pe_un un_neg pe_int) (pa_cons pe_bl (pa_cons pe_bl (pa_cons pe_non (pa_cons pe_str (pa_cons pe_str (pa_cons (pe_tup pa_nil) (pa_cons pe_str (pa_cons (pe_op op_sub (pe_callTy (Lg.call_intLong T.dig) (by rfl) T.z_int (by decide +kernel) (pa_cons (pe_op Lg.op_repS pe_str pe_int) pa_nil)) (pe_call (ok_law_take T) (hr.mono (by decide)) (by rfl) T.law_take_m T.law_take_F.kp T.law_take_b .nil pass0 (pa_cons (pv 0) (pa_cons pe_int pa_nil)))) pa_nil)))))))))))) pa_nil))))
      (pss_cons (ps_for PassesOwn.never rfl (pi_range1 (by rfl) T.z_range (pa_cons (pe_call (ok_law_pick T) (hr.mono (by decide)) (by rfl) T.law_pick_m T.law_pick_F.kp T.law_pick_b .nil pass0 (pa_cons (pv 0) (pa_cons (pe_lst (pa_cons pe_int (pa_cons pe_int (pa_cons pe_int (pa_cons pe_int (pa_cons pe_int (pa_cons pe_int (pa_cons pe_int (pa_cons pe_int pa_nil))))))))) pa_nil))) pa_nil)) (pg_name (i := 2) sc_law_thing.nd rfl (Or.inl rfl)) (pss_one (ps_set (i := 1) sc_law_thing.nd rfl (Or.inl rfl) (pe_call (ok_law_pick T) (hr.mono (by decide)) (by rfl) T.law_pick_m T.law_pick_F.kp T.law_pick_b .nil pass0 (pa_cons (pv 0) (pa_cons (pe_lst (pa_cons (pe_lst (pa_cons (pv 1) pa_nil)) (pa_cons (pe_tup (pa_cons (pv 1) pa_nil)) (pa_cons (pe_lst (pa_cons (pv 1) (pa_cons (pv 2) pa_nil))) (pa_cons (pe_tup (pa_cons (pv 2) (pa_cons (pv 1) pa_nil))) (pa_cons (pe_lst (pa_cons pe_non (pa_cons (pv 1) pa_nil))) pa_nil)))))) pa_nil))))))
      (pss_one (ps_ret (pv 1))))), ?_⟩
    obtain ⟨N, hN⟩ := sev_text
    refine ⟨_, rfl, 1, rfl, (by show 0 ≤ sizeLine; decide), fun t nt => ⟨_, 4000, rfl, rfl, by decide, by decide, by decide, by decide, _, N, rfl, hN, (by rw [Lg.repS_len]; decide), ?_⟩⟩
    refine ⟨_, rfl, b, 1000, rfl, hb.ex (exn nt), by decide, by decide, fun r H1 e1 r0 r1 => ⟨_, _, rfl, rfl, (by show 11 ≤ sizeLine; decide), fun l nl => ⟨b, l, _, rfl, (hb.ex (exn nt)).ex (e1.trans (exn nl)), upd_same, by simp, by simp, fun v H2 e2 hv => ?_⟩⟩⟩
    have E2 : Ex H H2 := (exn nt).trans (e1.trans ((exn nl).trans e2))
    have ht2 : H2 t = some (.tup []) := e2 _ _ (exn nl _ _ (e1 _ _ upd_same))
    have hd : Nd H2 1 v := by
      simp only [List.mem_cons, List.not_mem_nil, or_false] at hv
      rcases hv with rfl | rfl | rfl | rfl | rfl | rfl | rfl | rfl | rfl | rfl | rfl
      · exact nd_flat (.int _) (by decide)
      · exact nd_flat (.int _) (by decide)
      · exact nd_flat (.int _) (by decide)
      · exact nd_flat (.bl _) (by decide)
      · exact nd_flat (.bl _) (by decide)
      · exact nd_flat .non (by decide)
      · exact nd_flat (.str _) (by decide)
      · exact nd_flat (.str _) (by decide)
      · exact nd_nil ht2
      · exact nd_flat (.str _) (by decide)
      · exact nd_flat (.int _) (by decide)
    refine ⟨_, rfl, (by show 8 ≤ sizeLine; decide), fun l2 nl2 => ⟨b, l2, _, rfl, (hb.ex E2).ex (exn nl2), upd_same, by simp, by simp, fun u H4 e4 hu => ?_⟩⟩
    have E4 : Ex H H4 := E2.trans ((exn nl2).trans e4)
    obtain ⟨m, rfl, hm⟩ : ∃ m : Nat, u = .int m ∧ m ≤ 79 := by
      simp only [List.mem_cons, List.not_mem_nil, or_false] at hu
      rcases hu with rfl | rfl | rfl | rfl | rfl | rfl | rfl | rfl
      · exact ⟨0, rfl, by decide⟩
      · exact ⟨0, rfl, by decide⟩
      · exact ⟨1, rfl, by decide⟩
      · exact ⟨1, rfl, by decide⟩
      · exact ⟨2, rfl, by decide⟩
      · exact ⟨3, rfl, by decide⟩
      · exact ⟨12, rfl, by decide⟩
      · exact ⟨79, rfl, by decide⟩
    refine ⟨m, rfl, by omega, by omega, for_range (lo := 0) (fun i σ' H' => ∃ v kk, σ' = [some (.ref b), some v, kk] ∧ Ex H H' ∧ Nd H' (1 + 2 * i) v) ?_ ?_ ?_⟩
    · exact ⟨v, none, rfl, E4, hd.ex ((exn nl2).trans e4)⟩
    · rintro i σ' H5 hi ⟨v, kk, rfl, E5, hd⟩
      refine ⟨_, rfl, _, rfl, (by show 1 ≤ sizeLine; decide), fun p1 n1 => ?_⟩
      generalize hg1 : upd H5 p1 _ = G1
      have g1 : Ex H5 G1 := newE hg1 n1
      have q1 := newP hg1
      refine ⟨_, rfl, (by show 1 ≤ sizeLine; decide), fun p2 n2 => ?_⟩
      generalize hg2 : upd G1 p2 _ = G2
      have g2 : Ex G1 G2 := newE hg2 n2
      have q2 := newP hg2
      refine ⟨_, rfl, _, rfl, (by show 2 ≤ sizeLine; decide), fun p3 n3 => ?_⟩
      generalize hg3 : upd G2 p3 _ = G3
      have g3 : Ex G2 G3 := newE hg3 n3
      have q3 := newP hg3
      refine ⟨_, rfl, _, rfl, (by show 2 ≤ sizeLine; decide), fun p4 n4 => ?_⟩
      generalize hg4 : upd G3 p4 _ = G4
      have g4 : Ex G3 G4 := newE hg4 n4
      have q4 := newP hg4
      refine ⟨_, rfl, (by show 2 ≤ sizeLine; decide), fun p5 n5 => ?_⟩
      generalize hg5 : upd G4 p5 _ = G5
      have g5 : Ex G4 G5 := newE hg5 n5
      have q5 := newP hg5
      have G05 : Ex H5 G5 := g1.trans (g2.trans (g3.trans (g4.trans g5)))
      refine ⟨(by show 5 ≤ sizeLine; decide), fun l nl => ⟨b, l, _, rfl, (hb.ex E5).ex (G05.trans (exn nl)), upd_same, by simp, by simp, fun u H6 e6 hu => ?_⟩⟩
      have G56 : Ex G5 H6 := (exn nl).trans e6
      refine ⟨u, _, rfl, E5.trans (G05.trans G56), ?_⟩
      have hd6 : Nd H6 (1 + 2 * i) v := hd.ex (G05.trans G56)
      have r1 := G56 _ _ (g5 _ _ (g4 _ _ (g3 _ _ (g2 _ _ q1))))
      have r2 := G56 _ _ (g5 _ _ (g4 _ _ (g3 _ _ q2)))
      have r3 := G56 _ _ (g5 _ _ (g4 _ _ q3))
      have r4 := G56 _ _ (g5 _ _ q4)
      have r5 := G56 _ _ q5
      simp only [List.mem_cons, List.not_mem_nil, or_false] at hu
      show Nd H6 (1 + 2 * i + 2) u
      rcases hu with rfl | rfl | rfl | rfl | rfl
      · exact nd_l1 r1 hd6
      · exact nd_t1 r2 hd6
      · exact nd_l2 r3 hd6 (.int _) (by decide)
      · exact nd_t2 r4 hd6 (.int _) (by decide)
      · exact nd_m2 r5 hd6 .non (by decide)
    · rintro σ' H5 ⟨v, kk, rfl, E5, hd⟩
      obtain ⟨n, hn, hw⟩ := hd
      exact ⟨_, rfl, k v H5 E5 ⟨n, by omega, hw⟩⟩
end
end K00
set_option maxRecDepth 100000
set_option maxHeartbeats 4000000
namespace K00
open PySem PySem.Spec PyProof.Rows L2 Pre
section
variable {P : Program} {w : World} {K : PySem.W.Frag} {mg : Str → Option Value} {base : Heap}
/-! ### lists of truth values as data -/
theorem lay_bls : ∀ bs : List Bool, PyData.canLayAll0 (bs.map PyData.bool) = true
  | [] => by simp [PyData.canLayAll0]
  | b :: bs => by simp [PyData.canLayAll0, PyData.canLay0, lay_bls bs]
theorem depth_bls : ∀ bs : List Bool, PyData.depthAll (bs.map PyData.bool) = 0
  | [] => by simp [PyData.depthAll]
  | b :: bs => by simp [PyData.depthAll, PyData.depth, depth_bls bs]
theorem shaped_bls (bs : List Bool) : SeqAt.shaped (.list (bs.map PyData.bool)) = true := by
  show (PyData.canLay0 (.list (bs.map PyData.bool)) && decide (PyData.depth (.list (bs.map PyData.bool)) ≤ 64)) = true
  rw [Bool.and_eq_true]
  refine ⟨by simp only [PyData.canLay0]; exact lay_bls bs, decide_eq_true ?_⟩
  simp only [PyData.depth, depth_bls bs]
  decide
theorem dp_bls {H : Hp} : ∀ bs : List Bool, DpAll K H (bs.map V.bl) (bs.map PyData.bool)
  | [] => .nil
  | b :: bs => .cons (.bl b) (dp_bls bs)
theorem eqvAll_bls : ∀ bs : List Bool, PyData.eqvAll (bs.map PyData.bool) (bs.map PyData.bool) = true
  | [] => by simp [PyData.eqvAll]
  | b :: bs => by simp [PyData.eqvAll, PyData.eqv, eqvAll_bls bs]
theorem eqv_bls (bs : List Bool) : PyData.eqv (.list (bs.map PyData.bool)) (.list (bs.map PyData.bool)) = true := by
  simp only [PyData.eqv]
  exact eqvAll_bls bs
def kindsB (n : Nat) : List Bool := (List.range 12).map (fun j => decide (j = n)) ++ [!decide (n = 10), decide (n = 10), false]
theorem kindsV_eq (n : Nat) : kindsV n = (kindsB n).map V.bl := by
  unfold kindsV kindsB
  rw [List.map_append, List.map_map]
  rfl

/-! ### which of three -/
def pick3 (n : Nat) (A B C : V) : V := if n = 1 then B else if n = 11 then C else A
theorem ix3 {n : Nat} {A B C : V} : atI [A, B, C] ((if decide (V.int n = V.int 1) = true then 1 else 0) + 2 * (if decide (V.int n = V.int 11) = true then 1 else 0)) = some (pick3 n A B C) := by
  unfold pick3
  by_cases h1 : n = 1
  · subst h1
    rfl
  · by_cases h2 : n = 11
    · subst h2
      rfl
    · rw [if_neg h1, if_neg h2, if_neg (by simp; omega), if_neg (by simp; omega)]
      rfl
theorem pick3_at {H : Hp} {n : Nat} {x y : V} {p1 p2 p3 : Addr} (h1 : H p1 = some (.lst [x])) (h2 : H p2 = some (.lst [x, y])) (h3 : H p3 = some (.lst [])) : ∃ q, pick3 n (.ref p1) (.ref p2) (.ref p3) = .ref q ∧ H q = some (.lst (vals n x y)) := by
  unfold pick3
  by_cases e1 : n = 1
  · subst e1
    exact ⟨p2, rfl, h2⟩
  · by_cases e2 : n = 11
    · subst e2
      exact ⟨p3, rfl, h3⟩
    · refine ⟨p1, by rw [if_neg e1, if_neg e2], ?_⟩
      rw [h1]
      unfold vals
      split <;> first | rfl | omega
theorem eqW {H : Hp} {n : Nat} {x y : V} {a q : Addr} (h1 : H a = some (.lst (vals n x y))) (h2 : H q = some (.lst (vals n x y))) (dx : Nd H 160 x) (dy : Nd H 160 y) : ∃ m, Work H m [(.ref a, .ref q)] ∧ m ≤ 399 := by
  obtain ⟨i, hi, wi⟩ := dx
  obtain ⟨j, hj, wj⟩ := dy
  have key : ∃ m, m ≤ 320 ∧ Work H m ((vals n x y).zip (vals n x y)).reverse := by
    unfold vals
    split
    · exact ⟨j + i, by omega, wj.app wi⟩
    · exact ⟨0, by omega, .nil⟩
    · exact ⟨i, by omega, wi⟩
  obtain ⟨m, hm, hw⟩ := key
  exact ⟨m + 1, .lst h1 h2 rfl (by rw [List.append_nil]; exact hw), by omega⟩
theorem ix_case {n : Nat} : atI [V.str "case", V.str "key"] (if decide (V.int n = V.int 10) = true then 1 else 0) = some (.str (if n = 10 then "key" else "case")) := by
  by_cases h : n = 10
  · subst h
    rfl
  · rw [if_neg h, if_neg (by simp; omega)]
    rfl
theorem er_ne {H : Hp} {a c C : Addr} (h : Xc.ErV H a C) (n : H c = none) : a ≠ c := fun z => by
  rcases h with ⟨d, fs, h1, _⟩ | h1
  · rw [z, n] at h1
    cases h1
  · rw [z, n] at h1
    cases h1
/-! ### one number -/
def spOne : Sp := fun vs H Q _ => ∃ (b : Addr) (n : Nat), vs = [.ref b, .int n] ∧ n < 12 ∧ BoxAt H b ∧ ∀ H', BoxAt H' b → Q (.bl true) H'
theorem ok_law_one_holds (T : Tx K mg) : FnOk P w K mg base CX0 7 T.law_one_holds T.law_one_holds_fd ["box", "number"] spOne := by
  refine T.law_one_holds_F.ok sc_law_one_holds (fun vs H Q E h => ?_) (fun cdv A outer s H vs Q E hr h => ?_)
  · obtain ⟨b, n, rfl, _⟩ := h
    rfl
  · obtain ⟨b, n, rfl, hn, hb, k⟩ := h
    refine ⟨_, (pss_cons (ps_par (i := 2) (j := 3) (by rfl) sc_law_one_holds.nd rfl rfl (by decide) rfl rfl (pa_cons (pe_call (ok_law_thing T) (hr.mono (by decide)) (by rfl) T.law_thing_m T.law_thing_F.kp T.law_thing_b .nil pass0 (pa_cons (pv 0) pa_nil)) (pa_cons (pe_call (ok_law_thing T) (hr.mono (by decide)) (by rfl) T.law_thing_m T.law_thing_F.kp T.law_thing_b .nil pass0 (pa_cons (pv 0) pa_nil)) pa_nil)) (by rfl))
      (pss_cons (ps_set (i := 4) sc_law_one_holds.nd rfl (Or.inl rfl) (pe_ix ix_list (pe_lst (pa_cons (pe_lst (pa_cons (pv 2) pa_nil)) (pa_cons (pe_lst (pa_cons (pv 2) (pa_cons (pv 3) pa_nil))) (pa_cons (pe_lst pa_nil) pa_nil)))) (pe_op op_add (pe_callTy call_int1 (by rfl) T.z_int (by decide +kernel) (pa_cons (pe_cmpR op_eq (pv 1) pe_int (nomark _)) pa_nil)) (pe_op op_mul pe_int (pe_callTy call_int1 (by rfl) T.z_int (by decide +kernel) (pa_cons (pe_cmpR op_eq (pv 1) pe_int (nomark _)) pa_nil)))) (fun _ _ => rfl)))
      (pss_cons (ps_par3 (i := 5) (j := 6) (l := 7) (by rfl) sc_law_one_holds.nd rfl rfl rfl (by decide) (by decide) (by decide) rfl rfl rfl (pa_cons (pe_call (ok_law_caught T) (hr.mono (by decide)) (by rfl) T.law_caught_m T.law_caught_F.kp T.law_caught_b .nil pass0 (pa_cons (pv 1) (pa_cons (pv 2) (pa_cons (pv 3) pa_nil)))) (pa_cons (pe_call (ok_law_made T) (hr.mono (by decide)) (by rfl) T.law_made_m T.law_made_F.kp T.law_made_b .nil pass0 (pa_cons (pv 1) (pa_cons (pv 2) (pa_cons (pv 3) pa_nil)))) (pa_cons (pe_call (ok_law_named T) (hr.mono (by decide)) (by rfl) T.law_named_m T.law_named_F.kp T.law_named_b .nil pass0 (pa_cons (pv 1) (pa_cons (pv 2) (pa_cons (pv 3) pa_nil)))) pa_nil))) (by rfl))
      (pss_cons (ps_if (PW.pt (pw_or (pt_cmpR op_ne (pe_ix ix_list (pv 5) pe_int (fun _ _ => rfl)) (pv 1) (nomark _)) (pw_or (pt_not (pt_val (pe_call (ok_law_equal T) (hr.mono (by decide)) (by rfl) T.law_equal_m T.law_equal_F.kp T.law_equal_b .nil pass0 (pa_cons (pe_ix ix_list (pv 5) pe_int (fun _ _ => rfl)) (pa_cons (pv 4) pa_nil))))) (pw_or1 (pt_cmpR op_ne (pe_call (ok_law_base T) (hr.mono (by decide)) (by rfl) T.law_base_m T.law_base_F.kp T.law_base_b .nil pass0 (pa_cons (pv 1) (pa_cons (pv 2) (pa_cons (pv 3) pa_nil)))) (pe_ix ix_list (pe_lst (pa_cons pe_str (pa_cons pe_str pa_nil))) (pe_callTy call_int1 (by rfl) T.z_int (by decide +kernel) (pa_cons (pe_cmpR op_eq (pv 1) pe_int (nomark _)) pa_nil)) (fun _ _ => rfl)) (nomark _)))))) (pss_one (ps_ret pe_bl)) pss_nil)
      (pss_cons (ps_if (PW.pt (pw_or (pt_cmpR (op_neD hr.units) (pe_call (ok_law_kinds T) (hr.mono (by decide)) (by rfl) T.law_kinds_m T.law_kinds_F.kp T.law_kinds_b .nil pass0 (pa_cons (pv 6) pa_nil)) (pe_call (ok_law_due T) (hr.mono (by decide)) (by rfl) T.law_due_m T.law_due_F.kp T.law_due_b .nil pass0 (pa_cons (pv 1) pa_nil)) (nomark _)) (pw_or1 (pt_cmpR (op_neD hr.units) (pe_call (ok_law_kinds T) (hr.mono (by decide)) (by rfl) T.law_kinds_m T.law_kinds_F.kp T.law_kinds_b .nil pass0 (pa_cons (pv 7) pa_nil)) (pe_call (ok_law_due T) (hr.mono (by decide)) (by rfl) T.law_due_m T.law_due_F.kp T.law_due_b .nil pass0 (pa_cons (pv 1) pa_nil)) (nomark _))))) (pss_one (ps_ret pe_bl)) pss_nil)
      (pss_cons (ps_if (PW.pt (pw_or (pt_not (pt_val (pe_call (ok_law_equal T) (hr.mono (by decide)) (by rfl) T.law_equal_m T.law_equal_F.kp T.law_equal_b .nil pass0 (pa_cons (pe_call (ok_law_kept T) (hr.mono (by decide)) (by rfl) T.law_kept_m T.law_kept_F.kp T.law_kept_b .nil pass0 (pa_cons (pv 1) (pa_cons (pv 6) pa_nil))) (pa_cons (pv 4) pa_nil))))) (pw_or1 (pt_not (pt_val (pe_call (ok_law_equal T) (hr.mono (by decide)) (by rfl) T.law_equal_m T.law_equal_F.kp T.law_equal_b .nil pass0 (pa_cons (pe_call (ok_law_kept T) (hr.mono (by decide)) (by rfl) T.law_kept_m T.law_kept_F.kp T.law_kept_b .nil pass0 (pa_cons (pv 1) (pa_cons (pv 7) pa_nil))) (pa_cons (pv 4) pa_nil)))))))) (pss_one (ps_ret pe_bl)) pss_nil)
      (pss_cons (ps_set (i := 8) sc_law_one_holds.nd rfl (Or.inl rfl) (pe_lst (pa_cons (pe_call (ok_law_take T) (hr.mono (by decide)) (by rfl) T.law_take_m T.law_take_F.kp T.law_take_b .nil pass0 (pa_cons (pv 0) (pa_cons pe_int pa_nil))) pa_nil)))
      (pss_cons (ps_set (i := 6) sc_law_one_holds.nd rfl (Or.inl rfl) (pe_call (ok_law_made T) (hr.mono (by decide)) (by rfl) T.law_made_m T.law_made_F.kp T.law_made_b .nil pass0 (pa_cons (pv 1) (pa_cons (pv 8) (pa_cons (pv 8) pa_nil)))))
      (pss_cons (ps_expr (pe_bm PySem.F.plainAttrs_list PySem.F.slot_list_append PySem.F.type_list_append mt_append (pv 8) (pa_cons pe_str pa_nil)))
      (pss_cons (ps_if (pt_not (pt_val (pe_call (ok_law_equal T) (hr.mono (by decide)) (by rfl) T.law_equal_m T.law_equal_F.kp T.law_equal_b .nil pass0 (pa_cons (pe_call (ok_law_kept T) (hr.mono (by decide)) (by rfl) T.law_kept_m T.law_kept_F.kp T.law_kept_b .nil pass0 (pa_cons (pv 1) (pa_cons (pv 6) pa_nil))) (pa_cons (pe_ix ix_list (pe_lst (pa_cons (pe_lst (pa_cons (pv 8) pa_nil)) (pa_cons (pe_lst (pa_cons (pv 8) (pa_cons (pv 8) pa_nil))) (pa_cons (pe_lst pa_nil) pa_nil)))) (pe_op op_add (pe_callTy call_int1 (by rfl) T.z_int (by decide +kernel) (pa_cons (pe_cmpR op_eq (pv 1) pe_int (nomark _)) pa_nil)) (pe_op op_mul pe_int (pe_callTy call_int1 (by rfl) T.z_int (by decide +kernel) (pa_cons (pe_cmpR op_eq (pv 1) pe_int (nomark _)) pa_nil)))) (fun _ _ => rfl)) pa_nil))))) (pss_one (ps_ret pe_bl)) pss_nil)
      (pss_cons (ps_set (i := 9) sc_law_one_holds.nd rfl (Or.inl rfl) (pe_op op_mod (pe_callTy call_int1 (by rfl) T.z_int (by decide +kernel) (pa_cons (pe_op op_add (pe_op op_add (pv 1) pe_int) (pe_call (ok_law_take T) (hr.mono (by decide)) (by rfl) T.law_take_m T.law_take_F.kp T.law_take_b .nil pass0 (pa_cons (pv 0) (pa_cons pe_int pa_nil)))) pa_nil)) pe_int))
      (pss_one (ps_ret (pe_and (pe_not (pe_cmpR (Xc.op_eqEr hr.units0) (pe_call (ok_law_made T) (hr.mono (by decide)) (by rfl) T.law_made_m T.law_made_F.kp T.law_made_b .nil pass0 (pa_cons (pv 1) (pa_cons pe_int (pa_cons pe_int pa_nil)))) (pe_call (ok_law_made T) (hr.mono (by decide)) (by rfl) T.law_made_m T.law_made_F.kp T.law_made_b .nil pass0 (pa_cons (pv 9) (pa_cons pe_int (pa_cons pe_int pa_nil)))) (nomark _))) (pe_one (pe_cmpR (Xc.op_neEr (hu_of hr)) (pe_call (ok_law_made T) (hr.mono (by decide)) (by rfl) T.law_made_m T.law_made_F.kp T.law_made_b .nil pass0 (pa_cons (pv 1) (pa_cons pe_int (pa_cons pe_int pa_nil)))) (pe_call (ok_law_made T) (hr.mono (by decide)) (by rfl) T.law_made_m T.law_made_F.kp T.law_made_b .nil pass0 (pa_cons (pv 9) (pa_cons pe_int (pa_cons pe_int pa_nil)))) (nomark _))))))))))))))))), ?_⟩
    refine ⟨_, rfl, b, rfl, hb, fun x H1 e1 dx => ⟨_, rfl, b, rfl, hb.ex e1, fun y H2 e2 dy => ?_⟩⟩
    have E2 : Ex H H2 := e1.trans e2
    have dx2 := dx.ex e2
    refine ⟨_, _, rfl, ?_⟩
    -- due
    refine ⟨_, rfl, (by show 1 ≤ sizeLine; decide), fun p1 n1 => ?_⟩
    generalize hg1 : upd H2 p1 _ = G1
    have g1 : Ex H2 G1 := newE hg1 n1
    have q1 := newP hg1
    refine ⟨_, rfl, _, rfl, (by show 2 ≤ sizeLine; decide), fun p2 n2 => ?_⟩
    generalize hg2 : upd G1 p2 _ = G2
    have g2 : Ex G1 G2 := newE hg2 n2
    have q2 := newP hg2
    refine ⟨(by show 0 ≤ sizeLine; decide), fun p3 n3 => ?_⟩
    generalize hg3 : upd G2 p3 _ = G3
    have g3 : Ex G2 G3 := newE hg3 n3
    have q3 := newP hg3
    refine ⟨(by show 3 ≤ sizeLine; decide), fun p0 n0 => ?_⟩
    generalize hg4 : upd G3 p0 _ = G4
    have g4 : Ex G3 G4 := newE hg4 n0
    have q0 := newP hg4
    obtain ⟨q, eqq, hq⟩ := pick3_at (n := n) (g4 _ _ (g3 _ _ (g2 _ _ q1))) (g4 _ _ (g3 _ _ q2)) (g4 _ _ q3)
    have E4 : Ex H2 G4 := g1.trans (g2.trans (g3.trans g4))
    refine ⟨_, rfl, rfl, .inr ⟨_, rfl, _, rfl, rfl, .inr ⟨_, rfl, _, _, rfl, rfl, .inl ⟨by decide, by decide⟩, _, _, rfl, rfl, p0, _, _, _, rfl, rfl, SqL.of q0, ix3, ?_⟩⟩⟩
    rw [eqq]
    -- caught, error, named
    refine ⟨_, rfl, _, rfl, _, rfl, n, x, y, rfl, hn, fun pc H5 e5 hc => ⟨_, rfl, _, rfl, _, rfl, n, x, y, rfl, hn, fun a H6 e6 na ha => ⟨_, rfl, _, rfl, _, rfl, n, x, y, rfl, hn, fun a2 H7 e7 na2 ha2 => ⟨_, _, _, rfl, ?_⟩⟩⟩⟩
    obtain ⟨pv, hpc, hpv⟩ := hc
    have E7 : Ex G4 H7 := e5.trans (e6.trans e7)
    have hq7 := E7 _ _ hq
    have hpc7 := (e6.trans e7) _ _ hpc
    have hpv7 := (e6.trans e7) _ _ hpv
    have ha7 := ha.ex e7
    have dx7 := dx2.ex (E4.trans E7)
    have dy7 := dy.ex (E4.trans E7)
    have hb7 : BoxAt H7 b := hb.ex (E2.trans (E4.trans E7))
    obtain ⟨m1, w1, l1⟩ := eqW hpv7 hq7 dx7 dy7
    refine ⟨_, rfl, pc, _, _, _, rfl, rfl, SqL.of hpc7, atI_nat (j := 0) rfl, _, rfl, rfl, _, rfl, ifN (by simp) ⟨_, rfl, pc, _, _, _, rfl, rfl, SqL.of hpc7, atI_nat (j := 1) rfl, _, rfl, _, _, m1, rfl, w1, l1, fun H8 e8 => ⟨_, rfl, ifN rfl ?_⟩⟩⟩
    refine ⟨_, rfl, _, rfl, _, rfl, n, x, y, rfl, hn, fun H9 e9 => ⟨(by show 2 ≤ sizeLine; decide), fun pl nl => ⟨_, rfl, rfl, .inr ⟨_, rfl, pl, _, _, _, rfl, rfl, SqL.of upd_same, ix_case, rfl, _, rfl, ifN (by simp) ?_⟩⟩⟩⟩
    have E10 : Ex H7 (upd H9 pl (.lst [V.str "case", .str "key"])) := e8.trans (e9.trans (exn nl))
    generalize upd H9 pl (.lst [V.str "case", .str "key"]) = H10 at E10 ⊢
    -- kinds
    have ne1 : (!PyData.eqv (.list ((kindsB n).map PyData.bool)) (.list ((kindsB n).map PyData.bool))) = false := by rw [eqv_bls]; rfl
    refine ⟨_, rfl, n, a, rfl, hn, (ha7.ex E10).1, fun pk1 H11 e11 hk1 => ⟨_, rfl, n, rfl, hn, fun pd1 H12 e12 hd1 => ⟨_, _, .lst (SqL.of (e12 _ _ hk1)) (by rw [kindsV_eq]; exact dp_bls _), .lst (SqL.of hd1) (by rw [kindsV_eq]; exact dp_bls _), shaped_bls _, shaped_bls _, _, rfl, ifN ne1 ?_⟩⟩⟩
    have E12 : Ex H7 H12 := E10.trans (e11.trans e12)
    refine ⟨_, rfl, n, a2, rfl, hn, (ha2.ex E12).1, fun pk2 H13 e13 hk2 => ⟨_, rfl, n, rfl, hn, fun pd2 H14 e14 hd2 => ⟨_, _, .lst (SqL.of (e14 _ _ hk2)) (by rw [kindsV_eq]; exact dp_bls _), .lst (SqL.of hd2) (by rw [kindsV_eq]; exact dp_bls _), shaped_bls _, shaped_bls _, _, rfl, ifN ne1 ?_⟩⟩⟩
    have E14 : Ex H7 H14 := E12.trans (e13.trans e14)
    -- kept
    refine ⟨_, rfl, _, rfl, n, x, y, a, rfl, hn, ha7.ex E14, fun pk3 H15 e15 hk3 => ?_⟩
    obtain ⟨m2, w2, l2⟩ := eqW hk3 ((E14.trans e15) _ _ hq7) (dx7.ex (E14.trans e15)) (dy7.ex (E14.trans e15))
    refine ⟨_, rfl, _, _, m2, rfl, w2, l2, fun H16 e16 => ⟨_, rfl, ifN rfl ?_⟩⟩
    have E16 : Ex H7 H16 := E14.trans (e15.trans e16)
    refine ⟨_, rfl, _, rfl, n, x, y, a2, rfl, hn, ha2.ex E16, fun pk4 H17 e17 hk4 => ?_⟩
    obtain ⟨m3, w3, l3⟩ := eqW hk4 ((E16.trans e17) _ _ hq7) (dx7.ex (E16.trans e17)) (dy7.ex (E16.trans e17))
    refine ⟨_, rfl, _, _, m3, rfl, w3, l3, fun H18 e18 => ⟨_, rfl, ifN rfl ?_⟩⟩
    have hb18 : BoxAt H18 b := hb7.ex (E16.trans (e17.trans e18))
    -- row
    refine ⟨_, rfl, b, 9, rfl, hb18, by decide, by decide, fun r H19 e19 r0 r1 => ⟨(by show 1 ≤ sizeLine; decide), fun rw nrw => ?_⟩⟩
    have hb20 : BoxAt (upd H19 rw (.lst [V.int r])) b := (hb18.ex e19).ex (exn nrw)
    have hr20 : upd H19 rw (.lst [V.int r]) rw = some (.lst [V.int r]) := upd_same
    generalize upd H19 rw (.lst [V.int r]) = H20 at hb20 hr20 ⊢
    refine ⟨_, rfl, _, rfl, _, rfl, n, .ref rw, .ref rw, rfl, hn, fun a3 H21 e21 na3 ha3 => ?_⟩
    have hr21 := e21 _ _ hr20
    have hb21 := hb20.ex e21
    refine ⟨_, rfl, .inl ⟨rfl, _, SqL.of hr21⟩, rw, _, _, rfl, rfl, hr21, (by show 1 < sizeLine; decide), ?_⟩
    have off : ∀ p o, H21 p = some o → (∀ xs, o ≠ .lst xs) → upd H21 rw (.lst [V.int r, .str "later"]) p = some o := fun p o hp ne => by
      rw [upd_ne (fun z => ?_)]
      · exact hp
      · rw [z, hr21] at hp
        exact ne _ (Option.some.inj hp).symm
    have hr22 : upd H21 rw (.lst [V.int r, .str "later"]) rw = some (.lst [V.int r, .str "later"]) := upd_same
    have hb22 : BoxAt (upd H21 rw (.lst [V.int r, .str "later"])) b := off _ _ hb21 (fun xs z => by have z' : HO.ext _ = HO.lst xs := z; cases z')
    have ha22 : ErA T (upd H21 rw (.lst [V.int r, .str "later"])) a3 n (.ref rw) (.ref rw) := by
      have nx : ∀ {e C : Addr} {d : Option Addr} (xs : List V), Xc.ErV H21 a3 (cat T n) → exo e C d ≠ .lst xs := fun {e C d} xs _ z => by have z' : HO.ext _ = HO.lst xs := z; cases z'
      have nd : ∀ {e : Addr} {fs : List (Str × V)} (xs : List V), exd e fs ≠ .lst xs := fun {e fs} xs z => by have z' : HO.ext _ = HO.lst xs := z; cases z'
      refine ⟨?_, fun h => ?_⟩
      · rcases ha3.1 with ⟨d, fs, h1, h2⟩ | h1
        · exact .inl ⟨d, fs, off _ _ h1 (fun xs => nx xs ha3.1), off _ _ h2 (fun xs => nd xs)⟩
        · exact .inr (off _ _ h1 (fun xs z => by have z' : HO.ext _ = HO.lst xs := z; cases z'))
      · obtain ⟨d, h1, h2⟩ := ha3.2 h
        exact ⟨d, off _ _ h1 (fun xs => nx xs ha3.1), off _ _ h2 (fun xs => nd xs)⟩
    show (_ : Prop)
    generalize hg22 : upd H21 rw (.lst ([V.int r] ++ [.str "later"])) = H22
    have e22 : upd H21 rw (.lst [V.int r, .str "later"]) = H22 := hg22
    rw [e22] at hr22 hb22 ha22
    have drow : Nd H22 160 (.ref rw) := ⟨3, by decide, .lst hr22 hr22 rfl (.flat (.str _) (by decide) (.flat (.int _) (by decide) .nil))⟩
    refine ⟨_, rfl, _, rfl, n, .ref rw, .ref rw, a3, rfl, hn, ha22, fun pk5 H23 e23 hk5 => ?_⟩
    refine ⟨_, rfl, (by show 1 ≤ sizeLine; decide), fun p1 n1 => ?_⟩
    generalize hg1 : upd H23 p1 _ = G1
    have g1 : Ex H23 G1 := newE hg1 n1
    have q1 := newP hg1
    refine ⟨_, rfl, _, rfl, (by show 2 ≤ sizeLine; decide), fun p2 n2 => ?_⟩
    generalize hg2 : upd G1 p2 _ = G2
    have g2 : Ex G1 G2 := newE hg2 n2
    have q2 := newP hg2
    refine ⟨(by show 0 ≤ sizeLine; decide), fun p3 n3 => ?_⟩
    generalize hg3 : upd G2 p3 _ = G3
    have g3 : Ex G2 G3 := newE hg3 n3
    have q3 := newP hg3
    refine ⟨(by show 3 ≤ sizeLine; decide), fun p0 n0 => ?_⟩
    generalize hg4 : upd G3 p0 _ = G4
    have g4 : Ex G3 G4 := newE hg4 n0
    have q0 := newP hg4
    obtain ⟨q', eqq', hq'⟩ := pick3_at (n := n) (g4 _ _ (g3 _ _ (g2 _ _ q1))) (g4 _ _ (g3 _ _ q2)) (g4 _ _ q3)
    have E24 : Ex H22 G4 := e23.trans (g1.trans (g2.trans (g3.trans g4)))
    refine ⟨_, rfl, rfl, .inr ⟨_, rfl, _, rfl, rfl, .inr ⟨_, rfl, _, _, rfl, rfl, .inl ⟨by decide, by decide⟩, _, _, rfl, rfl, p0, _, _, _, rfl, rfl, SqL.of q0, ix3, ?_⟩⟩⟩
    rw [eqq']
    obtain ⟨m4, w4, l4⟩ := eqW ((g1.trans (g2.trans (g3.trans g4))) _ _ hk5) hq' (drow.ex E24) (drow.ex E24)
    refine ⟨_, _, m4, rfl, w4, l4, fun H25 e25 => ⟨_, rfl, ifN rfl ?_⟩⟩
    have hb25 : BoxAt H25 b := hb22.ex (E24.trans e25)
    -- another
    refine ⟨_, rfl, _, _, rfl, rfl, _, rfl, b, 11, rfl, hb25, by decide, by decide, fun r2 H26 e26 s0 s1 => ⟨_, _, rfl, rfl, .inl ⟨_, rfl, _, _, rfl, rfl, (by show (0 : Int) < 12; decide), ?_⟩⟩⟩
    obtain ⟨m, hm, m12, mn⟩ : ∃ m : Nat, ((n : Int) + 1 + r2) % 12 = m ∧ m < 12 ∧ m ≠ n := by
      refine ⟨(((n : Int) + 1 + r2) % 12).toNat, ?_, ?_, ?_⟩ <;> omega
    have em : ((fun i j : Int => V.int (i % j)) ((n : Int) + 1 + r2) 12) = V.int m := congrArg V.int hm
    rw [em]
    have hb26 : BoxAt H26 b := hb25.ex e26
    have sub0 : PySem.W.subIn K (.ref (cat T m)) (.ref (cat T n)) = some false := by
      rw [(Xc.tab_pair T.tab (cat_mem T m12) (cat_mem T hn)).2.2]
      exact congrArg some (beq_eq_false_iff_ne.mpr fun z => mn (cat_inj T m12 hn z))
    refine ⟨_, rfl, n, .int 1, .int 2, rfl, hn, fun a5 H27 e27 na5 h5 => ⟨_, rfl, m, .int 1, .int 2, rfl, m12, fun a6 H28 e28 na6 h6 => ?_⟩⟩
    refine ⟨a5, a6, cat T n, cat T m, rfl, rfl, er_ne h5.1 na6, h5.1.ex e28, h6.1, (facts T hn).2, (facts T m12).2, sub0, ?_⟩
    exact ⟨_, rfl, _, rfl, ifT rfl ⟨_, rfl, n, .int 1, .int 2, rfl, hn, fun a7 H29 e29 na7 h7 => ⟨_, rfl, m, .int 1, .int 2, rfl, m12, fun a8 H30 e30 na8 h8 => ⟨a7, a8, cat T n, cat T m, rfl, rfl, er_ne h7.1 na8, h7.1.ex e30, h8.1, (facts T hn).2, (facts T m12).2, sub0,
      k _ (hb26.ex (e27.trans (e28.trans (e29.trans e30))))⟩⟩⟩⟩
end
end K00
set_option maxRecDepth 100000
set_option maxHeartbeats 4000000
namespace K00
open PySem PySem.Spec PyProof.Rows L2 Pre
section
variable {P : Program} {w : World} {K : PySem.W.Frag} {mg : Str → Option Value} {base : Heap}
def spLaw (K : PySem.W.Frag) : Sp := fun vs H Q _ => ∃ (a : Addr) (ns : List Int), vs = [.ref a] ∧ SqL K H a (ns.map V.int) ∧ ns.length ≤ 63 ∧ ∀ H', Q (.bl true) H'
theorem ok_law (T : Tx K mg) : FnOk P w K mg base CX0 8 T.law T.law_fd ["script"] (spLaw K) := by
  refine T.law_F.ok sc_law (fun vs H Q E h => ?_) (fun cdv A outer s H vs Q E hr h => ?_)
  · obtain ⟨a, ns, rfl, _⟩ := h
    rfl
  · obtain ⟨a, ns, rfl, ha, hl, k⟩ := h
    refine ⟨_, (pss_cons (ps_set (i := 1) sc_law.nd rfl (Or.inl rfl) (pe_call (ok_law_box T) (hr.mono (by decide)) (by rfl) T.law_box_m T.law_box_F.kp T.law_box_b .nil pass0 (pa_cons (pv 0) (pa_cons pe_int pa_nil))))
      (pss_cons (ps_for PassesOwn.never rfl (pi_range1 (by rfl) T.z_range (pa_cons pe_int pa_nil)) (pg_name (i := 2) sc_law.nd rfl (Or.inl rfl)) (pss_one (ps_if (pt_not (pt_val (pe_call (ok_law_one_holds T) (hr.mono (by decide)) (by rfl) T.law_one_holds_m T.law_one_holds_F.kp T.law_one_holds_b .nil pass0 (pa_cons (pv 1) (pa_cons (pv 2) pa_nil))))) (pss_one (ps_ret pe_bl)) pss_nil)))
      (pss_one (ps_ret pe_bl)))), ?_⟩
    refine ⟨_, rfl, a, ns, rfl, ha, hl, fun b H1 e1 hb => ⟨12, rfl, by decide, by decide, for_range (lo := 0) (n := 12) (fun i σ' H' => BoxAt H' b ∧ ∃ v, σ' = [some (.ref a), some (.ref b), v]) ⟨hb, none, rfl⟩ ?_ ?_⟩⟩
    · rintro i σ' H' hi ⟨hb', v, rfl⟩
      have ei : V.int (0 + (i : Int)) = V.int i := by rw [Int.zero_add]
      rw [ei]
      exact ⟨_, rfl, _, rfl, b, i, rfl, hi, hb', fun H2 hb2 => ⟨_, rfl, ifN rfl ⟨hb2, _, rfl⟩⟩⟩
    · rintro σ' H' ⟨hb', v, rfl⟩
      exact k _
end
theorem all_mk {l : PySem.W.OpenLaw} {w : World} {K : PySem.W.Frag} {h : Heap} {mg : Str → Option Value} {fa : Addr} {C_CaseError C_InvalidHeap I_InvalidHeap C_InvalidPlan I_InvalidPlan C_InvalidText I_InvalidText C_InvalidRun I_InvalidRun C_InvalidTerm I_InvalidTerm C_InvalidCarry I_InvalidCarry C_InvalidDeed I_InvalidDeed C_InvalidOctets I_InvalidOctets C_InvalidCommand C_InvalidSize I_InvalidSize C_Refused I_Refused C_NoName I_NoName : Addr} {f0 f1 f2 f3 f4 f5 f6 f7 f8 f9 f10 f11 f12 f13 f14 f15 f16 f17 : Addr} (X : K.In h) (G : h.Ns mainGlobals mg) (hfa : mg "law" = some (.ref fa))
    {od0 od1 od2 od3 od4 od5 od6 od7 od8 od9 od10 od11 od12 od13 od14 od15 od16 od17 an0 an1 an2 an3 an4 an5 an6 an7 an8 an9 an10 an11 an12 an13 an14 an15 an16 an17 : Option Addr} {sl0 sl1 sl2 sl3 sl4 sl5 sl6 sl7 sl8 sl9 sl10 sl11 sl12 sl13 sl14 sl15 sl16 sl17 : Array (Option Value)} {oc0 oc1 oc2 oc3 oc4 oc5 oc6 oc7 oc8 oc9 oc10 oc11 oc12 oc13 oc14 oc15 oc16 oc17 kV0 kV1 kV2 kV3 kV4 kV5 kV6 kV7 kV8 kV9 kV10 kV11 kV12 kV13 kV14 kV15 kV16 kV17 dc0 dc1 dc2 dc3 dc4 dc5 dc6 dc7 dc8 dc9 dc10 dc11 dc12 dc13 dc14 dc15 dc16 dc17 pm0 pm1 pm2 pm3 pm4 pm5 pm6 pm7 pm8 pm9 pm10 pm11 pm12 pm13 pm14 pm15 pm16 pm17 cd0 cd1 cd2 cd3 cd4 cd5 cd6 cd7 cd8 cd9 cd10 cd11 cd12 cd13 cd14 cd15 cd16 cd17 ct0 ct1 ct2 ct3 ct4 ct5 ct6 ct7 ct8 ct9 ct10 ct11 ct12 ct13 ct14 ct15 ct16 ct17 : Value}
    (a0 : PySem.W.nsIn K mainGlobals "_law_box" = some (some (.ref f0))) (l0 : K.lookup f0 = some ⟨oc0, od0, .func (PySem.W.fnOf "_law_box" "_law_box" (defArgs s_law_box) (defBody s_law_box) (defScope s_law_box) .none kV0 dc0 pm0 an0 cd0 ct0), sl0⟩) (c0 : PySem.W.codeIn K cd0 "_law_box" = true) (k0 : PySem.W.keepIn K (.ref f0) = true)
    (a1 : PySem.W.nsIn K mainGlobals "_law_take" = some (some (.ref f1))) (l1 : K.lookup f1 = some ⟨oc1, od1, .func (PySem.W.fnOf "_law_take" "_law_take" (defArgs s_law_take) (defBody s_law_take) (defScope s_law_take) .none kV1 dc1 pm1 an1 cd1 ct1), sl1⟩) (c1 : PySem.W.codeIn K cd1 "_law_take" = true) (k1 : PySem.W.keepIn K (.ref f1) = true)
    (a2 : PySem.W.nsIn K mainGlobals "_law_pick" = some (some (.ref f2))) (l2 : K.lookup f2 = some ⟨oc2, od2, .func (PySem.W.fnOf "_law_pick" "_law_pick" (defArgs s_law_pick) (defBody s_law_pick) (defScope s_law_pick) .none kV2 dc2 pm2 an2 cd2 ct2), sl2⟩) (c2 : PySem.W.codeIn K cd2 "_law_pick" = true) (k2 : PySem.W.keepIn K (.ref f2) = true)
    (a3 : PySem.W.nsIn K mainGlobals "_law_made" = some (some (.ref f3))) (l3 : K.lookup f3 = some ⟨oc3, od3, .func (PySem.W.fnOf "_law_made" "_law_made" (defArgs s_law_made) (defBody s_law_made) (defScope s_law_made) .none kV3 dc3 pm3 an3 cd3 ct3), sl3⟩) (c3 : PySem.W.codeIn K cd3 "_law_made" = true) (k3 : PySem.W.keepIn K (.ref f3) = true)
    (a4 : PySem.W.nsIn K mainGlobals "_law_named" = some (some (.ref f4))) (l4 : K.lookup f4 = some ⟨oc4, od4, .func (PySem.W.fnOf "_law_named" "_law_named" (defArgs s_law_named) (defBody s_law_named) (defScope s_law_named) .none kV4 dc4 pm4 an4 cd4 ct4), sl4⟩) (c4 : PySem.W.codeIn K cd4 "_law_named" = true) (k4 : PySem.W.keepIn K (.ref f4) = true)
    (a5 : PySem.W.nsIn K mainGlobals "_law_raise_one" = some (some (.ref f5))) (l5 : K.lookup f5 = some ⟨oc5, od5, .func (PySem.W.fnOf "_law_raise_one" "_law_raise_one" (defArgs s_law_raise_one) (defBody s_law_raise_one) (defScope s_law_raise_one) .none kV5 dc5 pm5 an5 cd5 ct5), sl5⟩) (c5 : PySem.W.codeIn K cd5 "_law_raise_one" = true) (k5 : PySem.W.keepIn K (.ref f5) = true)
    (a6 : PySem.W.nsIn K mainGlobals "_law_raise" = some (some (.ref f6))) (l6 : K.lookup f6 = some ⟨oc6, od6, .func (PySem.W.fnOf "_law_raise" "_law_raise" (defArgs s_law_raise) (defBody s_law_raise) (defScope s_law_raise) .none kV6 dc6 pm6 an6 cd6 ct6), sl6⟩) (c6 : PySem.W.codeIn K cd6 "_law_raise" = true) (k6 : PySem.W.keepIn K (.ref f6) = true)
    (a7 : PySem.W.nsIn K mainGlobals "_law_caught_one" = some (some (.ref f7))) (l7 : K.lookup f7 = some ⟨oc7, od7, .func (PySem.W.fnOf "_law_caught_one" "_law_caught_one" (defArgs s_law_caught_one) (defBody s_law_caught_one) (defScope s_law_caught_one) .none kV7 dc7 pm7 an7 cd7 ct7), sl7⟩) (c7 : PySem.W.codeIn K cd7 "_law_caught_one" = true) (k7 : PySem.W.keepIn K (.ref f7) = true)
    (a8 : PySem.W.nsIn K mainGlobals "_law_caught" = some (some (.ref f8))) (l8 : K.lookup f8 = some ⟨oc8, od8, .func (PySem.W.fnOf "_law_caught" "_law_caught" (defArgs s_law_caught) (defBody s_law_caught) (defScope s_law_caught) .none kV8 dc8 pm8 an8 cd8 ct8), sl8⟩) (c8 : PySem.W.codeIn K cd8 "_law_caught" = true) (k8 : PySem.W.keepIn K (.ref f8) = true)
    (a9 : PySem.W.nsIn K mainGlobals "_law_base" = some (some (.ref f9))) (l9 : K.lookup f9 = some ⟨oc9, od9, .func (PySem.W.fnOf "_law_base" "_law_base" (defArgs s_law_base) (defBody s_law_base) (defScope s_law_base) .none kV9 dc9 pm9 an9 cd9 ct9), sl9⟩) (c9 : PySem.W.codeIn K cd9 "_law_base" = true) (k9 : PySem.W.keepIn K (.ref f9) = true)
    (a10 : PySem.W.nsIn K mainGlobals "_law_kinds" = some (some (.ref f10))) (l10 : K.lookup f10 = some ⟨oc10, od10, .func (PySem.W.fnOf "_law_kinds" "_law_kinds" (defArgs s_law_kinds) (defBody s_law_kinds) (defScope s_law_kinds) .none kV10 dc10 pm10 an10 cd10 ct10), sl10⟩) (c10 : PySem.W.codeIn K cd10 "_law_kinds" = true) (k10 : PySem.W.keepIn K (.ref f10) = true)
    (a11 : PySem.W.nsIn K mainGlobals "_law_due" = some (some (.ref f11))) (l11 : K.lookup f11 = some ⟨oc11, od11, .func (PySem.W.fnOf "_law_due" "_law_due" (defArgs s_law_due) (defBody s_law_due) (defScope s_law_due) .none kV11 dc11 pm11 an11 cd11 ct11), sl11⟩) (c11 : PySem.W.codeIn K cd11 "_law_due" = true) (k11 : PySem.W.keepIn K (.ref f11) = true)
    (a12 : PySem.W.nsIn K mainGlobals "_law_kept" = some (some (.ref f12))) (l12 : K.lookup f12 = some ⟨oc12, od12, .func (PySem.W.fnOf "_law_kept" "_law_kept" (defArgs s_law_kept) (defBody s_law_kept) (defScope s_law_kept) .none kV12 dc12 pm12 an12 cd12 ct12), sl12⟩) (c12 : PySem.W.codeIn K cd12 "_law_kept" = true) (k12 : PySem.W.keepIn K (.ref f12) = true)
    (a13 : PySem.W.nsIn K mainGlobals "_law_equal" = some (some (.ref f13))) (l13 : K.lookup f13 = some ⟨oc13, od13, .func (PySem.W.fnOf "_law_equal" "_law_equal" (defArgs s_law_equal) (defBody s_law_equal) (defScope s_law_equal) .none kV13 dc13 pm13 an13 cd13 ct13), sl13⟩) (c13 : PySem.W.codeIn K cd13 "_law_equal" = true) (k13 : PySem.W.keepIn K (.ref f13) = true)
    (a14 : PySem.W.nsIn K mainGlobals "_law_kind" = some (some (.ref f14))) (l14 : K.lookup f14 = some ⟨oc14, od14, .func (PySem.W.fnOf "_law_kind" "_law_kind" (defArgs s_law_kind) (defBody s_law_kind) (defScope s_law_kind) .none kV14 dc14 pm14 an14 cd14 ct14), sl14⟩) (c14 : PySem.W.codeIn K cd14 "_law_kind" = true) (k14 : PySem.W.keepIn K (.ref f14) = true)
    (a15 : PySem.W.nsIn K mainGlobals "_law_thing" = some (some (.ref f15))) (l15 : K.lookup f15 = some ⟨oc15, od15, .func (PySem.W.fnOf "_law_thing" "_law_thing" (defArgs s_law_thing) (defBody s_law_thing) (defScope s_law_thing) .none kV15 dc15 pm15 an15 cd15 ct15), sl15⟩) (c15 : PySem.W.codeIn K cd15 "_law_thing" = true) (k15 : PySem.W.keepIn K (.ref f15) = true)
    (a16 : PySem.W.nsIn K mainGlobals "_law_one_holds" = some (some (.ref f16))) (l16 : K.lookup f16 = some ⟨oc16, od16, .func (PySem.W.fnOf "_law_one_holds" "_law_one_holds" (defArgs s_law_one_holds) (defBody s_law_one_holds) (defScope s_law_one_holds) .none kV16 dc16 pm16 an16 cd16 ct16), sl16⟩) (c16 : PySem.W.codeIn K cd16 "_law_one_holds" = true) (k16 : PySem.W.keepIn K (.ref f16) = true)
    (a17 : PySem.W.nsIn K mainGlobals "law" = some (some (.ref f17))) (l17 : K.lookup f17 = some ⟨oc17, od17, .func (PySem.W.fnOf "law" "law" (defArgs s_law) (defBody s_law) (defScope s_law) .none kV17 dc17 pm17 an17 cd17 ct17), sl17⟩) (c17 : PySem.W.codeIn K cd17 "law" = true) (k17 : PySem.W.keepIn K (.ref f17) = true)
    (z_KeyError : PySem.W.nsIn K mainGlobals "KeyError" = some none)
    (z_ValueError : PySem.W.nsIn K mainGlobals "ValueError" = some none)
    (z_abs : PySem.W.nsIn K mainGlobals "abs" = some none)
    (z_bool : PySem.W.nsIn K mainGlobals "bool" = some none)
    (z_int : PySem.W.nsIn K mainGlobals "int" = some none)
    (z_isinstance : PySem.W.nsIn K mainGlobals "isinstance" = some none)
    (z_len : PySem.W.nsIn K mainGlobals "len" = some none)
    (z_list : PySem.W.nsIn K mainGlobals "list" = some none)
    (z_range : PySem.W.nsIn K mainGlobals "range" = some none)
    (z_str : PySem.W.nsIn K mainGlobals "str" = some none)
    (z_tuple : PySem.W.nsIn K mainGlobals "tuple" = some none)
    (a_CaseError : PySem.W.nsIn K mainGlobals "CaseError" = some (some (.ref C_CaseError))) (e_CaseError : Xc.erB K C_CaseError "Exception.__new__" Xc.tExc [] = true)
    (a_InvalidHeap : PySem.W.nsIn K mainGlobals "InvalidHeap" = some (some (.ref C_InvalidHeap))) (e_InvalidHeap : Xc.erB K C_InvalidHeap "Exception.__new__" Xc.tExc ["at"] = true)
    (i_InvalidHeap : PySem.W.findIn K (.ref C_InvalidHeap) "__init__" = some (some (.ref I_InvalidHeap))) (t_InvalidHeap : PySem.W.typeIn K (.ref I_InvalidHeap) = some (.type "function"))
    {oc_InvalidHeap kV_InvalidHeap dc_InvalidHeap pm_InvalidHeap cd_InvalidHeap ct_InvalidHeap : Value} {od_InvalidHeap an_InvalidHeap : Option Addr} {sl_InvalidHeap : Array (Option Value)}
    (l_InvalidHeap : K.lookup I_InvalidHeap = some ⟨oc_InvalidHeap, od_InvalidHeap, .func (PySem.W.fnOf "__init__" "InvalidHeap.__init__" (defArgs s_InvalidHeap_i) (defBody s_InvalidHeap_i) (defScope s_InvalidHeap_i) .none kV_InvalidHeap dc_InvalidHeap pm_InvalidHeap an_InvalidHeap cd_InvalidHeap ct_InvalidHeap), sl_InvalidHeap⟩) (c_InvalidHeap : PySem.W.codeIn K cd_InvalidHeap "InvalidHeap.__init__" = true) (k_InvalidHeap : PySem.W.keepIn K (.ref I_InvalidHeap) = true)
    (a_InvalidPlan : PySem.W.nsIn K mainGlobals "InvalidPlan" = some (some (.ref C_InvalidPlan))) (e_InvalidPlan : Xc.erB K C_InvalidPlan "Exception.__new__" Xc.tExc ["word", "at"] = true)
    (i_InvalidPlan : PySem.W.findIn K (.ref C_InvalidPlan) "__init__" = some (some (.ref I_InvalidPlan))) (t_InvalidPlan : PySem.W.typeIn K (.ref I_InvalidPlan) = some (.type "function"))
    {oc_InvalidPlan kV_InvalidPlan dc_InvalidPlan pm_InvalidPlan cd_InvalidPlan ct_InvalidPlan : Value} {od_InvalidPlan an_InvalidPlan : Option Addr} {sl_InvalidPlan : Array (Option Value)}
    (l_InvalidPlan : K.lookup I_InvalidPlan = some ⟨oc_InvalidPlan, od_InvalidPlan, .func (PySem.W.fnOf "__init__" "InvalidPlan.__init__" (defArgs s_InvalidPlan_i) (defBody s_InvalidPlan_i) (defScope s_InvalidPlan_i) .none kV_InvalidPlan dc_InvalidPlan pm_InvalidPlan an_InvalidPlan cd_InvalidPlan ct_InvalidPlan), sl_InvalidPlan⟩) (c_InvalidPlan : PySem.W.codeIn K cd_InvalidPlan "InvalidPlan.__init__" = true) (k_InvalidPlan : PySem.W.keepIn K (.ref I_InvalidPlan) = true)
    (a_InvalidText : PySem.W.nsIn K mainGlobals "InvalidText" = some (some (.ref C_InvalidText))) (e_InvalidText : Xc.erB K C_InvalidText "Exception.__new__" Xc.tExc ["at"] = true)
    (i_InvalidText : PySem.W.findIn K (.ref C_InvalidText) "__init__" = some (some (.ref I_InvalidText))) (t_InvalidText : PySem.W.typeIn K (.ref I_InvalidText) = some (.type "function"))
    {oc_InvalidText kV_InvalidText dc_InvalidText pm_InvalidText cd_InvalidText ct_InvalidText : Value} {od_InvalidText an_InvalidText : Option Addr} {sl_InvalidText : Array (Option Value)}
    (l_InvalidText : K.lookup I_InvalidText = some ⟨oc_InvalidText, od_InvalidText, .func (PySem.W.fnOf "__init__" "InvalidText.__init__" (defArgs s_InvalidText_i) (defBody s_InvalidText_i) (defScope s_InvalidText_i) .none kV_InvalidText dc_InvalidText pm_InvalidText an_InvalidText cd_InvalidText ct_InvalidText), sl_InvalidText⟩) (c_InvalidText : PySem.W.codeIn K cd_InvalidText "InvalidText.__init__" = true) (k_InvalidText : PySem.W.keepIn K (.ref I_InvalidText) = true)
    (a_InvalidRun : PySem.W.nsIn K mainGlobals "InvalidRun" = some (some (.ref C_InvalidRun))) (e_InvalidRun : Xc.erB K C_InvalidRun "Exception.__new__" Xc.tExc ["at"] = true)
    (i_InvalidRun : PySem.W.findIn K (.ref C_InvalidRun) "__init__" = some (some (.ref I_InvalidRun))) (t_InvalidRun : PySem.W.typeIn K (.ref I_InvalidRun) = some (.type "function"))
    {oc_InvalidRun kV_InvalidRun dc_InvalidRun pm_InvalidRun cd_InvalidRun ct_InvalidRun : Value} {od_InvalidRun an_InvalidRun : Option Addr} {sl_InvalidRun : Array (Option Value)}
    (l_InvalidRun : K.lookup I_InvalidRun = some ⟨oc_InvalidRun, od_InvalidRun, .func (PySem.W.fnOf "__init__" "InvalidRun.__init__" (defArgs s_InvalidRun_i) (defBody s_InvalidRun_i) (defScope s_InvalidRun_i) .none kV_InvalidRun dc_InvalidRun pm_InvalidRun an_InvalidRun cd_InvalidRun ct_InvalidRun), sl_InvalidRun⟩) (c_InvalidRun : PySem.W.codeIn K cd_InvalidRun "InvalidRun.__init__" = true) (k_InvalidRun : PySem.W.keepIn K (.ref I_InvalidRun) = true)
    (a_InvalidTerm : PySem.W.nsIn K mainGlobals "InvalidTerm" = some (some (.ref C_InvalidTerm))) (e_InvalidTerm : Xc.erB K C_InvalidTerm "Exception.__new__" Xc.tExc ["place"] = true)
    (i_InvalidTerm : PySem.W.findIn K (.ref C_InvalidTerm) "__init__" = some (some (.ref I_InvalidTerm))) (t_InvalidTerm : PySem.W.typeIn K (.ref I_InvalidTerm) = some (.type "function"))
    {oc_InvalidTerm kV_InvalidTerm dc_InvalidTerm pm_InvalidTerm cd_InvalidTerm ct_InvalidTerm : Value} {od_InvalidTerm an_InvalidTerm : Option Addr} {sl_InvalidTerm : Array (Option Value)}
    (l_InvalidTerm : K.lookup I_InvalidTerm = some ⟨oc_InvalidTerm, od_InvalidTerm, .func (PySem.W.fnOf "__init__" "InvalidTerm.__init__" (defArgs s_InvalidTerm_i) (defBody s_InvalidTerm_i) (defScope s_InvalidTerm_i) .none kV_InvalidTerm dc_InvalidTerm pm_InvalidTerm an_InvalidTerm cd_InvalidTerm ct_InvalidTerm), sl_InvalidTerm⟩) (c_InvalidTerm : PySem.W.codeIn K cd_InvalidTerm "InvalidTerm.__init__" = true) (k_InvalidTerm : PySem.W.keepIn K (.ref I_InvalidTerm) = true)
    (a_InvalidCarry : PySem.W.nsIn K mainGlobals "InvalidCarry" = some (some (.ref C_InvalidCarry))) (e_InvalidCarry : Xc.erB K C_InvalidCarry "Exception.__new__" Xc.tExc ["at"] = true)
    (i_InvalidCarry : PySem.W.findIn K (.ref C_InvalidCarry) "__init__" = some (some (.ref I_InvalidCarry))) (t_InvalidCarry : PySem.W.typeIn K (.ref I_InvalidCarry) = some (.type "function"))
    {oc_InvalidCarry kV_InvalidCarry dc_InvalidCarry pm_InvalidCarry cd_InvalidCarry ct_InvalidCarry : Value} {od_InvalidCarry an_InvalidCarry : Option Addr} {sl_InvalidCarry : Array (Option Value)}
    (l_InvalidCarry : K.lookup I_InvalidCarry = some ⟨oc_InvalidCarry, od_InvalidCarry, .func (PySem.W.fnOf "__init__" "InvalidCarry.__init__" (defArgs s_InvalidCarry_i) (defBody s_InvalidCarry_i) (defScope s_InvalidCarry_i) .none kV_InvalidCarry dc_InvalidCarry pm_InvalidCarry an_InvalidCarry cd_InvalidCarry ct_InvalidCarry), sl_InvalidCarry⟩) (c_InvalidCarry : PySem.W.codeIn K cd_InvalidCarry "InvalidCarry.__init__" = true) (k_InvalidCarry : PySem.W.keepIn K (.ref I_InvalidCarry) = true)
    (a_InvalidDeed : PySem.W.nsIn K mainGlobals "InvalidDeed" = some (some (.ref C_InvalidDeed))) (e_InvalidDeed : Xc.erB K C_InvalidDeed "Exception.__new__" Xc.tExc ["at"] = true)
    (i_InvalidDeed : PySem.W.findIn K (.ref C_InvalidDeed) "__init__" = some (some (.ref I_InvalidDeed))) (t_InvalidDeed : PySem.W.typeIn K (.ref I_InvalidDeed) = some (.type "function"))
    {oc_InvalidDeed kV_InvalidDeed dc_InvalidDeed pm_InvalidDeed cd_InvalidDeed ct_InvalidDeed : Value} {od_InvalidDeed an_InvalidDeed : Option Addr} {sl_InvalidDeed : Array (Option Value)}
    (l_InvalidDeed : K.lookup I_InvalidDeed = some ⟨oc_InvalidDeed, od_InvalidDeed, .func (PySem.W.fnOf "__init__" "InvalidDeed.__init__" (defArgs s_InvalidDeed_i) (defBody s_InvalidDeed_i) (defScope s_InvalidDeed_i) .none kV_InvalidDeed dc_InvalidDeed pm_InvalidDeed an_InvalidDeed cd_InvalidDeed ct_InvalidDeed), sl_InvalidDeed⟩) (c_InvalidDeed : PySem.W.codeIn K cd_InvalidDeed "InvalidDeed.__init__" = true) (k_InvalidDeed : PySem.W.keepIn K (.ref I_InvalidDeed) = true)
    (a_InvalidOctets : PySem.W.nsIn K mainGlobals "InvalidOctets" = some (some (.ref C_InvalidOctets))) (e_InvalidOctets : Xc.erB K C_InvalidOctets "Exception.__new__" Xc.tExc ["at"] = true)
    (i_InvalidOctets : PySem.W.findIn K (.ref C_InvalidOctets) "__init__" = some (some (.ref I_InvalidOctets))) (t_InvalidOctets : PySem.W.typeIn K (.ref I_InvalidOctets) = some (.type "function"))
    {oc_InvalidOctets kV_InvalidOctets dc_InvalidOctets pm_InvalidOctets cd_InvalidOctets ct_InvalidOctets : Value} {od_InvalidOctets an_InvalidOctets : Option Addr} {sl_InvalidOctets : Array (Option Value)}
    (l_InvalidOctets : K.lookup I_InvalidOctets = some ⟨oc_InvalidOctets, od_InvalidOctets, .func (PySem.W.fnOf "__init__" "InvalidOctets.__init__" (defArgs s_InvalidOctets_i) (defBody s_InvalidOctets_i) (defScope s_InvalidOctets_i) .none kV_InvalidOctets dc_InvalidOctets pm_InvalidOctets an_InvalidOctets cd_InvalidOctets ct_InvalidOctets), sl_InvalidOctets⟩) (c_InvalidOctets : PySem.W.codeIn K cd_InvalidOctets "InvalidOctets.__init__" = true) (k_InvalidOctets : PySem.W.keepIn K (.ref I_InvalidOctets) = true)
    (a_InvalidCommand : PySem.W.nsIn K mainGlobals "InvalidCommand" = some (some (.ref C_InvalidCommand))) (e_InvalidCommand : Xc.erB K C_InvalidCommand "Exception.__new__" Xc.tExc [] = true)
    (q_InvalidCommand : PySem.W.excIn K C_InvalidCommand Xc.tExc "Exception.__new__" = true)
    (a_InvalidSize : PySem.W.nsIn K mainGlobals "InvalidSize" = some (some (.ref C_InvalidSize))) (e_InvalidSize : Xc.erB K C_InvalidSize "Exception.__new__" Xc.tExc ["word"] = true)
    (i_InvalidSize : PySem.W.findIn K (.ref C_InvalidSize) "__init__" = some (some (.ref I_InvalidSize))) (t_InvalidSize : PySem.W.typeIn K (.ref I_InvalidSize) = some (.type "function"))
    {oc_InvalidSize kV_InvalidSize dc_InvalidSize pm_InvalidSize cd_InvalidSize ct_InvalidSize : Value} {od_InvalidSize an_InvalidSize : Option Addr} {sl_InvalidSize : Array (Option Value)}
    (l_InvalidSize : K.lookup I_InvalidSize = some ⟨oc_InvalidSize, od_InvalidSize, .func (PySem.W.fnOf "__init__" "InvalidSize.__init__" (defArgs s_InvalidSize_i) (defBody s_InvalidSize_i) (defScope s_InvalidSize_i) .none kV_InvalidSize dc_InvalidSize pm_InvalidSize an_InvalidSize cd_InvalidSize ct_InvalidSize), sl_InvalidSize⟩) (c_InvalidSize : PySem.W.codeIn K cd_InvalidSize "InvalidSize.__init__" = true) (k_InvalidSize : PySem.W.keepIn K (.ref I_InvalidSize) = true)
    (a_Refused : PySem.W.nsIn K mainGlobals "Refused" = some (some (.ref C_Refused))) (e_Refused : Xc.erB K C_Refused "Exception.__new__" Xc.tExc ["word"] = true)
    (i_Refused : PySem.W.findIn K (.ref C_Refused) "__init__" = some (some (.ref I_Refused))) (t_Refused : PySem.W.typeIn K (.ref I_Refused) = some (.type "function"))
    {oc_Refused kV_Refused dc_Refused pm_Refused cd_Refused ct_Refused : Value} {od_Refused an_Refused : Option Addr} {sl_Refused : Array (Option Value)}
    (l_Refused : K.lookup I_Refused = some ⟨oc_Refused, od_Refused, .func (PySem.W.fnOf "__init__" "Refused.__init__" (defArgs s_Refused_i) (defBody s_Refused_i) (defScope s_Refused_i) .none kV_Refused dc_Refused pm_Refused an_Refused cd_Refused ct_Refused), sl_Refused⟩) (c_Refused : PySem.W.codeIn K cd_Refused "Refused.__init__" = true) (k_Refused : PySem.W.keepIn K (.ref I_Refused) = true)
    (a_NoName : PySem.W.nsIn K mainGlobals "NoName" = some (some (.ref C_NoName))) (e_NoName : Xc.erB K C_NoName "LookupError.__new__" Xc.tKey ["name"] = true)
    (i_NoName : PySem.W.findIn K (.ref C_NoName) "__init__" = some (some (.ref I_NoName))) (t_NoName : PySem.W.typeIn K (.ref I_NoName) = some (.type "function"))
    {oc_NoName kV_NoName dc_NoName pm_NoName cd_NoName ct_NoName : Value} {od_NoName an_NoName : Option Addr} {sl_NoName : Array (Option Value)}
    (l_NoName : K.lookup I_NoName = some ⟨oc_NoName, od_NoName, .func (PySem.W.fnOf "__init__" "NoName.__init__" (defArgs s_NoName_i) (defBody s_NoName_i) (defScope s_NoName_i) .none kV_NoName dc_NoName pm_NoName an_NoName cd_NoName ct_NoName), sl_NoName⟩) (c_NoName : PySem.W.codeIn K cd_NoName "NoName.__init__" = true) (k_NoName : PySem.W.keepIn K (.ref I_NoName) = true)
    (dig : PySem.W.nsIn K cStatics "sys.int_max_str_digits" = some none)
    (tab : Xc.tabB K [C_InvalidHeap, C_InvalidPlan, C_InvalidText, C_InvalidRun, C_InvalidTerm, C_InvalidCarry, C_InvalidDeed, C_InvalidOctets, C_InvalidSize, C_Refused, C_NoName, C_InvalidCommand] C_CaseError C_NoName = true) :
    ∃ fd : FuncData, (∀ (s : Shared) (v : Value), BindsTo s fd ⟨[v], []⟩ [("script", v)]) ∧ ∀ base : Heap, K.In base → base.Ns mainGlobals mg → FnOk l.prog w K mg base CX0 8 fa fd ["script"] (spLaw K) := by
  have e := hfa.symm.trans (PySem.W.mg_of X G a17)
  cases e
  have F0 := fun_mk (st := s_law_box) l0 c0 k0
  have b0 := F0.binds (ps := ["script", "k"]) fun _ _ _ _ _ _ us hl => match us, hl with | [_, _], _ => rfl
  have F1 := fun_mk (st := s_law_take) l1 c1 k1
  have b1 := F1.binds (ps := ["box", "many"]) fun _ _ _ _ _ _ us hl => match us, hl with | [_, _], _ => rfl
  have F2 := fun_mk (st := s_law_pick) l2 c2 k2
  have b2 := F2.binds (ps := ["box", "some"]) fun _ _ _ _ _ _ us hl => match us, hl with | [_, _], _ => rfl
  have F3 := fun_mk (st := s_law_made) l3 c3 k3
  have b3 := F3.binds (ps := ["number", "thing", "other"]) fun _ _ _ _ _ _ us hl => match us, hl with | [_, _, _], _ => rfl
  have F4 := fun_mk (st := s_law_named) l4 c4 k4
  have b4 := F4.binds (ps := ["number", "thing", "other"]) fun _ _ _ _ _ _ us hl => match us, hl with | [_, _, _], _ => rfl
  have F5 := fun_mk (st := s_law_raise_one) l5 c5 k5
  have b5 := F5.binds (ps := ["number", "thing", "other"]) fun _ _ _ _ _ _ us hl => match us, hl with | [_, _, _], _ => rfl
  have F6 := fun_mk (st := s_law_raise) l6 c6 k6
  have b6 := F6.binds (ps := ["number", "thing", "other"]) fun _ _ _ _ _ _ us hl => match us, hl with | [_, _, _], _ => rfl
  have F7 := fun_mk (st := s_law_caught_one) l7 c7 k7
  have b7 := F7.binds (ps := ["number", "thing", "other"]) fun _ _ _ _ _ _ us hl => match us, hl with | [_, _, _], _ => rfl
  have F8 := fun_mk (st := s_law_caught) l8 c8 k8
  have b8 := F8.binds (ps := ["number", "thing", "other"]) fun _ _ _ _ _ _ us hl => match us, hl with | [_, _, _], _ => rfl
  have F9 := fun_mk (st := s_law_base) l9 c9 k9
  have b9 := F9.binds (ps := ["number", "thing", "other"]) fun _ _ _ _ _ _ us hl => match us, hl with | [_, _, _], _ => rfl
  have F10 := fun_mk (st := s_law_kinds) l10 c10 k10
  have b10 := F10.binds (ps := ["error"]) fun _ _ _ _ _ _ us hl => match us, hl with | [_], _ => rfl
  have F11 := fun_mk (st := s_law_due) l11 c11 k11
  have b11 := F11.binds (ps := ["number"]) fun _ _ _ _ _ _ us hl => match us, hl with | [_], _ => rfl
  have F12 := fun_mk (st := s_law_kept) l12 c12 k12
  have b12 := F12.binds (ps := ["number", "error"]) fun _ _ _ _ _ _ us hl => match us, hl with | [_, _], _ => rfl
  have F13 := fun_mk (st := s_law_equal) l13 c13 k13
  have b13 := F13.binds (ps := ["one", "other"]) fun _ _ _ _ _ _ us hl => match us, hl with | [_, _], _ => rfl
  have F14 := fun_mk (st := s_law_kind) l14 c14 k14
  have b14 := F14.binds (ps := ["thing"]) fun _ _ _ _ _ _ us hl => match us, hl with | [_], _ => rfl
  have F15 := fun_mk (st := s_law_thing) l15 c15 k15
  have b15 := F15.binds (ps := ["box"]) fun _ _ _ _ _ _ us hl => match us, hl with | [_], _ => rfl
  have F16 := fun_mk (st := s_law_one_holds) l16 c16 k16
  have b16 := F16.binds (ps := ["box", "number"]) fun _ _ _ _ _ _ us hl => match us, hl with | [_, _], _ => rfl
  have F17 := fun_mk (st := s_law) l17 c17 k17
  have b17 := F17.binds (ps := ["script"]) fun _ _ _ _ _ _ us hl => match us, hl with | [_], _ => rfl
  have F_InvalidHeap := fun_mk (st := s_InvalidHeap_i) l_InvalidHeap c_InvalidHeap k_InvalidHeap
  have b_InvalidHeap := F_InvalidHeap.binds (ps := ["self", "at"]) fun _ _ _ _ _ _ us hl => match us, hl with | [_, _], _ => rfl
  have F_InvalidPlan := fun_mk (st := s_InvalidPlan_i) l_InvalidPlan c_InvalidPlan k_InvalidPlan
  have b_InvalidPlan := F_InvalidPlan.binds (ps := ["self", "word", "at"]) fun _ _ _ _ _ _ us hl => match us, hl with | [_, _, _], _ => rfl
  have F_InvalidText := fun_mk (st := s_InvalidText_i) l_InvalidText c_InvalidText k_InvalidText
  have b_InvalidText := F_InvalidText.binds (ps := ["self", "at"]) fun _ _ _ _ _ _ us hl => match us, hl with | [_, _], _ => rfl
  have F_InvalidRun := fun_mk (st := s_InvalidRun_i) l_InvalidRun c_InvalidRun k_InvalidRun
  have b_InvalidRun := F_InvalidRun.binds (ps := ["self", "at"]) fun _ _ _ _ _ _ us hl => match us, hl with | [_, _], _ => rfl
  have F_InvalidTerm := fun_mk (st := s_InvalidTerm_i) l_InvalidTerm c_InvalidTerm k_InvalidTerm
  have b_InvalidTerm := F_InvalidTerm.binds (ps := ["self", "place"]) fun _ _ _ _ _ _ us hl => match us, hl with | [_, _], _ => rfl
  have F_InvalidCarry := fun_mk (st := s_InvalidCarry_i) l_InvalidCarry c_InvalidCarry k_InvalidCarry
  have b_InvalidCarry := F_InvalidCarry.binds (ps := ["self", "at"]) fun _ _ _ _ _ _ us hl => match us, hl with | [_, _], _ => rfl
  have F_InvalidDeed := fun_mk (st := s_InvalidDeed_i) l_InvalidDeed c_InvalidDeed k_InvalidDeed
  have b_InvalidDeed := F_InvalidDeed.binds (ps := ["self", "at"]) fun _ _ _ _ _ _ us hl => match us, hl with | [_, _], _ => rfl
  have F_InvalidOctets := fun_mk (st := s_InvalidOctets_i) l_InvalidOctets c_InvalidOctets k_InvalidOctets
  have b_InvalidOctets := F_InvalidOctets.binds (ps := ["self", "at"]) fun _ _ _ _ _ _ us hl => match us, hl with | [_, _], _ => rfl
  have F_InvalidSize := fun_mk (st := s_InvalidSize_i) l_InvalidSize c_InvalidSize k_InvalidSize
  have b_InvalidSize := F_InvalidSize.binds (ps := ["self", "word"]) fun _ _ _ _ _ _ us hl => match us, hl with | [_, _], _ => rfl
  have F_Refused := fun_mk (st := s_Refused_i) l_Refused c_Refused k_Refused
  have b_Refused := F_Refused.binds (ps := ["self", "word"]) fun _ _ _ _ _ _ us hl => match us, hl with | [_, _], _ => rfl
  have F_NoName := fun_mk (st := s_NoName_i) l_NoName c_NoName k_NoName
  have b_NoName := F_NoName.binds (ps := ["self", "name"]) fun _ _ _ _ _ _ us hl => match us, hl with | [_, _], _ => rfl
  let T : Tx K mg :=
    { law_box := f0
      law_box_fd := _
      law_box_F := F0
      law_box_m := PySem.W.mg_of X G a0
      law_box_b := b0
      law_take := f1
      law_take_fd := _
      law_take_F := F1
      law_take_m := PySem.W.mg_of X G a1
      law_take_b := b1
      law_pick := f2
      law_pick_fd := _
      law_pick_F := F2
      law_pick_m := PySem.W.mg_of X G a2
      law_pick_b := b2
      law_made := f3
      law_made_fd := _
      law_made_F := F3
      law_made_m := PySem.W.mg_of X G a3
      law_made_b := b3
      law_named := f4
      law_named_fd := _
      law_named_F := F4
      law_named_m := PySem.W.mg_of X G a4
      law_named_b := b4
      law_raise_one := f5
      law_raise_one_fd := _
      law_raise_one_F := F5
      law_raise_one_m := PySem.W.mg_of X G a5
      law_raise_one_b := b5
      law_raise := f6
      law_raise_fd := _
      law_raise_F := F6
      law_raise_m := PySem.W.mg_of X G a6
      law_raise_b := b6
      law_caught_one := f7
      law_caught_one_fd := _
      law_caught_one_F := F7
      law_caught_one_m := PySem.W.mg_of X G a7
      law_caught_one_b := b7
      law_caught := f8
      law_caught_fd := _
      law_caught_F := F8
      law_caught_m := PySem.W.mg_of X G a8
      law_caught_b := b8
      law_base := f9
      law_base_fd := _
      law_base_F := F9
      law_base_m := PySem.W.mg_of X G a9
      law_base_b := b9
      law_kinds := f10
      law_kinds_fd := _
      law_kinds_F := F10
      law_kinds_m := PySem.W.mg_of X G a10
      law_kinds_b := b10
      law_due := f11
      law_due_fd := _
      law_due_F := F11
      law_due_m := PySem.W.mg_of X G a11
      law_due_b := b11
      law_kept := f12
      law_kept_fd := _
      law_kept_F := F12
      law_kept_m := PySem.W.mg_of X G a12
      law_kept_b := b12
      law_equal := f13
      law_equal_fd := _
      law_equal_F := F13
      law_equal_m := PySem.W.mg_of X G a13
      law_equal_b := b13
      law_kind := f14
      law_kind_fd := _
      law_kind_F := F14
      law_kind_m := PySem.W.mg_of X G a14
      law_kind_b := b14
      law_thing := f15
      law_thing_fd := _
      law_thing_F := F15
      law_thing_m := PySem.W.mg_of X G a15
      law_thing_b := b15
      law_one_holds := f16
      law_one_holds_fd := _
      law_one_holds_F := F16
      law_one_holds_m := PySem.W.mg_of X G a16
      law_one_holds_b := b16
      law := fa
      law_fd := _
      law_F := F17
      law_m := PySem.W.mg_of X G a17
      law_b := b17
      CaseError := C_CaseError
      CaseError_m := PySem.W.mg_of X G a_CaseError
      CaseError_E := Xc.erB_ok Xc.tail_exc e_CaseError
      InvalidHeap := C_InvalidHeap
      InvalidHeap_m := PySem.W.mg_of X G a_InvalidHeap
      InvalidHeap_E := Xc.erB_ok Xc.tail_exc e_InvalidHeap
      InvalidHeap_i := I_InvalidHeap
      InvalidHeap_fd := _
      InvalidHeap_F := F_InvalidHeap
      InvalidHeap_b := b_InvalidHeap
      InvalidHeap_iC := i_InvalidHeap
      InvalidHeap_tI := t_InvalidHeap
      InvalidPlan := C_InvalidPlan
      InvalidPlan_m := PySem.W.mg_of X G a_InvalidPlan
      InvalidPlan_E := Xc.erB_ok Xc.tail_exc e_InvalidPlan
      InvalidPlan_i := I_InvalidPlan
      InvalidPlan_fd := _
      InvalidPlan_F := F_InvalidPlan
      InvalidPlan_b := b_InvalidPlan
      InvalidPlan_iC := i_InvalidPlan
      InvalidPlan_tI := t_InvalidPlan
      InvalidText := C_InvalidText
      InvalidText_m := PySem.W.mg_of X G a_InvalidText
      InvalidText_E := Xc.erB_ok Xc.tail_exc e_InvalidText
      InvalidText_i := I_InvalidText
      InvalidText_fd := _
      InvalidText_F := F_InvalidText
      InvalidText_b := b_InvalidText
      InvalidText_iC := i_InvalidText
      InvalidText_tI := t_InvalidText
      InvalidRun := C_InvalidRun
      InvalidRun_m := PySem.W.mg_of X G a_InvalidRun
      InvalidRun_E := Xc.erB_ok Xc.tail_exc e_InvalidRun
      InvalidRun_i := I_InvalidRun
      InvalidRun_fd := _
      InvalidRun_F := F_InvalidRun
      InvalidRun_b := b_InvalidRun
      InvalidRun_iC := i_InvalidRun
      InvalidRun_tI := t_InvalidRun
      InvalidTerm := C_InvalidTerm
      InvalidTerm_m := PySem.W.mg_of X G a_InvalidTerm
      InvalidTerm_E := Xc.erB_ok Xc.tail_exc e_InvalidTerm
      InvalidTerm_i := I_InvalidTerm
      InvalidTerm_fd := _
      InvalidTerm_F := F_InvalidTerm
      InvalidTerm_b := b_InvalidTerm
      InvalidTerm_iC := i_InvalidTerm
      InvalidTerm_tI := t_InvalidTerm
      InvalidCarry := C_InvalidCarry
      InvalidCarry_m := PySem.W.mg_of X G a_InvalidCarry
      InvalidCarry_E := Xc.erB_ok Xc.tail_exc e_InvalidCarry
      InvalidCarry_i := I_InvalidCarry
      InvalidCarry_fd := _
      InvalidCarry_F := F_InvalidCarry
      InvalidCarry_b := b_InvalidCarry
      InvalidCarry_iC := i_InvalidCarry
      InvalidCarry_tI := t_InvalidCarry
      InvalidDeed := C_InvalidDeed
      InvalidDeed_m := PySem.W.mg_of X G a_InvalidDeed
      InvalidDeed_E := Xc.erB_ok Xc.tail_exc e_InvalidDeed
      InvalidDeed_i := I_InvalidDeed
      InvalidDeed_fd := _
      InvalidDeed_F := F_InvalidDeed
      InvalidDeed_b := b_InvalidDeed
      InvalidDeed_iC := i_InvalidDeed
      InvalidDeed_tI := t_InvalidDeed
      InvalidOctets := C_InvalidOctets
      InvalidOctets_m := PySem.W.mg_of X G a_InvalidOctets
      InvalidOctets_E := Xc.erB_ok Xc.tail_exc e_InvalidOctets
      InvalidOctets_i := I_InvalidOctets
      InvalidOctets_fd := _
      InvalidOctets_F := F_InvalidOctets
      InvalidOctets_b := b_InvalidOctets
      InvalidOctets_iC := i_InvalidOctets
      InvalidOctets_tI := t_InvalidOctets
      InvalidCommand := C_InvalidCommand
      InvalidCommand_m := PySem.W.mg_of X G a_InvalidCommand
      InvalidCommand_E := Xc.erB_ok Xc.tail_exc e_InvalidCommand
      InvalidCommand_q := q_InvalidCommand
      InvalidSize := C_InvalidSize
      InvalidSize_m := PySem.W.mg_of X G a_InvalidSize
      InvalidSize_E := Xc.erB_ok Xc.tail_exc e_InvalidSize
      InvalidSize_i := I_InvalidSize
      InvalidSize_fd := _
      InvalidSize_F := F_InvalidSize
      InvalidSize_b := b_InvalidSize
      InvalidSize_iC := i_InvalidSize
      InvalidSize_tI := t_InvalidSize
      Refused := C_Refused
      Refused_m := PySem.W.mg_of X G a_Refused
      Refused_E := Xc.erB_ok Xc.tail_exc e_Refused
      Refused_i := I_Refused
      Refused_fd := _
      Refused_F := F_Refused
      Refused_b := b_Refused
      Refused_iC := i_Refused
      Refused_tI := t_Refused
      NoName := C_NoName
      NoName_m := PySem.W.mg_of X G a_NoName
      NoName_E := Xc.erB_ok Xc.tail_key e_NoName
      NoName_i := I_NoName
      NoName_fd := _
      NoName_F := F_NoName
      NoName_b := b_NoName
      NoName_iC := i_NoName
      NoName_tI := t_NoName
      dig := dig
      tab := tab
      z_KeyError := PySem.W.mg_none_of X G z_KeyError
      z_ValueError := PySem.W.mg_none_of X G z_ValueError
      z_abs := PySem.W.mg_none_of X G z_abs
      z_bool := PySem.W.mg_none_of X G z_bool
      z_int := PySem.W.mg_none_of X G z_int
      z_isinstance := PySem.W.mg_none_of X G z_isinstance
      z_len := PySem.W.mg_none_of X G z_len
      z_list := PySem.W.mg_none_of X G z_list
      z_range := PySem.W.mg_none_of X G z_range
      z_str := PySem.W.mg_none_of X G z_str
      z_tuple := PySem.W.mg_none_of X G z_tuple }
  exact ⟨PySem.W.fnOf "law" "law" (defArgs s_law) (defBody s_law) (defScope s_law) .none kV17 dc17 pm17 an17 cd17 ct17, fun s v => .of_eq rfl, fun base _ _ => ok_law T⟩
end K00
open PySem PySem.W PyProof.Rows
set_option maxRecDepth 100000 in
set_option maxHeartbeats 0 in
theorem PySem.Challenge.cw_caseshome_k00_whole_errors_and_what_they_holds : PySem.Challenge.rw_caseshome_k00_whole_errors_and_what_they.Holds := by
  w_on; o_law; k_head; (case hw => w_witness2)
  k_fill
  refine L2.walk_of (l := PySem.Challenge.rw_caseshome_k00_whole_errors_and_what_they) (n := 63) (k := 8) (x := "script") (CX := fun _ => L2.CX0) (sp := fun w => K00.spLaw _) rfl (by decide) rfl ⟨rfl, by decide, by decide⟩ (fun w h Y => PySem.W.kIn_of Y) ?F (fun _ _ a ns hl _ hS => ⟨a, ns, rfl, hS, hl, fun _ => rfl⟩) (fun _ _ _ _ _ h => h)
  case F =>
    intro w mg fa h KX G hmg
    refine' K00.all_mk KX G hmg ?a0 ?l0 ?c0 ?k0 ?a1 ?l1 ?c1 ?k1 ?a2 ?l2 ?c2 ?k2 ?a3 ?l3 ?c3 ?k3 ?a4 ?l4 ?c4 ?k4 ?a5 ?l5 ?c5 ?k5 ?a6 ?l6 ?c6 ?k6 ?a7 ?l7 ?c7 ?k7 ?a8 ?l8 ?c8 ?k8 ?a9 ?l9 ?c9 ?k9 ?a10 ?l10 ?c10 ?k10 ?a11 ?l11 ?c11 ?k11 ?a12 ?l12 ?c12 ?k12 ?a13 ?l13 ?c13 ?k13 ?a14 ?l14 ?c14 ?k14 ?a15 ?l15 ?c15 ?k15 ?a16 ?l16 ?c16 ?k16 ?a17 ?l17 ?c17 ?k17 ?z_KeyError ?z_ValueError ?z_abs ?z_bool ?z_int ?z_isinstance ?z_len ?z_list ?z_range ?z_str ?z_tuple ?a_CaseError ?e_CaseError ?a_InvalidHeap ?e_InvalidHeap ?i_InvalidHeap ?t_InvalidHeap ?l_InvalidHeap ?c_InvalidHeap ?k_InvalidHeap ?a_InvalidPlan ?e_InvalidPlan ?i_InvalidPlan ?t_InvalidPlan ?l_InvalidPlan ?c_InvalidPlan ?k_InvalidPlan ?a_InvalidText ?e_InvalidText ?i_InvalidText ?t_InvalidText ?l_InvalidText ?c_InvalidText ?k_InvalidText ?a_InvalidRun ?e_InvalidRun ?i_InvalidRun ?t_InvalidRun ?l_InvalidRun ?c_InvalidRun ?k_InvalidRun ?a_InvalidTerm ?e_InvalidTerm ?i_InvalidTerm ?t_InvalidTerm ?l_InvalidTerm ?c_InvalidTerm ?k_InvalidTerm ?a_InvalidCarry ?e_InvalidCarry ?i_InvalidCarry ?t_InvalidCarry ?l_InvalidCarry ?c_InvalidCarry ?k_InvalidCarry ?a_InvalidDeed ?e_InvalidDeed ?i_InvalidDeed ?t_InvalidDeed ?l_InvalidDeed ?c_InvalidDeed ?k_InvalidDeed ?a_InvalidOctets ?e_InvalidOctets ?i_InvalidOctets ?t_InvalidOctets ?l_InvalidOctets ?c_InvalidOctets ?k_InvalidOctets ?a_InvalidCommand ?e_InvalidCommand ?q_InvalidCommand ?a_InvalidSize ?e_InvalidSize ?i_InvalidSize ?t_InvalidSize ?l_InvalidSize ?c_InvalidSize ?k_InvalidSize ?a_Refused ?e_Refused ?i_Refused ?t_Refused ?l_Refused ?c_Refused ?k_Refused ?a_NoName ?e_NoName ?i_NoName ?t_NoName ?l_NoName ?c_NoName ?k_NoName ?dig ?tab
    (case a0 => k_is)
    (case l0 => k_is)
    (case c0 => k_is)
    (case k0 => k_is)
    (case a1 => k_is)
    (case l1 => k_is)
    (case c1 => k_is)
    (case k1 => k_is)
    (case a2 => k_is)
    (case l2 => k_is)
    (case c2 => k_is)
    (case k2 => k_is)
    (case a3 => k_is)
    (case l3 => k_is)
    (case c3 => k_is)
    (case k3 => k_is)
    (case a4 => k_is)
    (case l4 => k_is)
    (case c4 => k_is)
    (case k4 => k_is)
    (case a5 => k_is)
    (case l5 => k_is)
    (case c5 => k_is)
    (case k5 => k_is)
    (case a6 => k_is)
    (case l6 => k_is)
    (case c6 => k_is)
    (case k6 => k_is)
    (case a7 => k_is)
    (case l7 => k_is)
    (case c7 => k_is)
    (case k7 => k_is)
    (case a8 => k_is)
    (case l8 => k_is)
    (case c8 => k_is)
    (case k8 => k_is)
    (case a9 => k_is)
    (case l9 => k_is)
    (case c9 => k_is)
    (case k9 => k_is)
    (case a10 => k_is)
    (case l10 => k_is)
    (case c10 => k_is)
    (case k10 => k_is)
    (case a11 => k_is)
    (case l11 => k_is)
    (case c11 => k_is)
    (case k11 => k_is)
    (case a12 => k_is)
    (case l12 => k_is)
    (case c12 => k_is)
    (case k12 => k_is)
    (case a13 => k_is)
    (case l13 => k_is)
    (case c13 => k_is)
    (case k13 => k_is)
    (case a14 => k_is)
    (case l14 => k_is)
    (case c14 => k_is)
    (case k14 => k_is)
    (case a15 => k_is)
    (case l15 => k_is)
    (case c15 => k_is)
    (case k15 => k_is)
    (case a16 => k_is)
    (case l16 => k_is)
    (case c16 => k_is)
    (case k16 => k_is)
    (case a17 => k_is)
    (case l17 => k_is)
    (case c17 => k_is)
    (case k17 => k_is)
    (case z_KeyError => k_is)
    (case z_ValueError => k_is)
    (case z_abs => k_is)
    (case z_bool => k_is)
    (case z_int => k_is)
    (case z_isinstance => k_is)
    (case z_len => k_is)
    (case z_list => k_is)
    (case z_range => k_is)
    (case z_str => k_is)
    (case z_tuple => k_is)
    (case a_CaseError => k_is)
    (case a_InvalidHeap => k_is)
    (case i_InvalidHeap => k_is)
    (case t_InvalidHeap => k_is)
    (case l_InvalidHeap => k_is)
    (case c_InvalidHeap => k_is)
    (case k_InvalidHeap => k_is)
    (case a_InvalidPlan => k_is)
    (case i_InvalidPlan => k_is)
    (case t_InvalidPlan => k_is)
    (case l_InvalidPlan => k_is)
    (case c_InvalidPlan => k_is)
    (case k_InvalidPlan => k_is)
    (case a_InvalidText => k_is)
    (case i_InvalidText => k_is)
    (case t_InvalidText => k_is)
    (case l_InvalidText => k_is)
    (case c_InvalidText => k_is)
    (case k_InvalidText => k_is)
    (case a_InvalidRun => k_is)
    (case i_InvalidRun => k_is)
    (case t_InvalidRun => k_is)
    (case l_InvalidRun => k_is)
    (case c_InvalidRun => k_is)
    (case k_InvalidRun => k_is)
    (case a_InvalidTerm => k_is)
    (case i_InvalidTerm => k_is)
    (case t_InvalidTerm => k_is)
    (case l_InvalidTerm => k_is)
    (case c_InvalidTerm => k_is)
    (case k_InvalidTerm => k_is)
    (case a_InvalidCarry => k_is)
    (case i_InvalidCarry => k_is)
    (case t_InvalidCarry => k_is)
    (case l_InvalidCarry => k_is)
    (case c_InvalidCarry => k_is)
    (case k_InvalidCarry => k_is)
    (case a_InvalidDeed => k_is)
    (case i_InvalidDeed => k_is)
    (case t_InvalidDeed => k_is)
    (case l_InvalidDeed => k_is)
    (case c_InvalidDeed => k_is)
    (case k_InvalidDeed => k_is)
    (case a_InvalidOctets => k_is)
    (case i_InvalidOctets => k_is)
    (case t_InvalidOctets => k_is)
    (case l_InvalidOctets => k_is)
    (case c_InvalidOctets => k_is)
    (case k_InvalidOctets => k_is)
    (case a_InvalidCommand => k_is)
    (case a_InvalidSize => k_is)
    (case i_InvalidSize => k_is)
    (case t_InvalidSize => k_is)
    (case l_InvalidSize => k_is)
    (case c_InvalidSize => k_is)
    (case k_InvalidSize => k_is)
    (case a_Refused => k_is)
    (case i_Refused => k_is)
    (case t_Refused => k_is)
    (case l_Refused => k_is)
    (case c_Refused => k_is)
    (case k_Refused => k_is)
    (case a_NoName => k_is)
    (case i_NoName => k_is)
    (case t_NoName => k_is)
    (case l_NoName => k_is)
    (case c_NoName => k_is)
    (case k_NoName => k_is)
    (case dig => k_is)
    (case e_CaseError => kernel_rfl)
    (case e_InvalidHeap => kernel_rfl)
    (case e_InvalidPlan => kernel_rfl)
    (case e_InvalidText => kernel_rfl)
    (case e_InvalidRun => kernel_rfl)
    (case e_InvalidTerm => kernel_rfl)
    (case e_InvalidCarry => kernel_rfl)
    (case e_InvalidDeed => kernel_rfl)
    (case e_InvalidOctets => kernel_rfl)
    (case e_InvalidCommand => kernel_rfl)
    (case q_InvalidCommand => kernel_rfl)
    (case e_InvalidSize => kernel_rfl)
    (case e_Refused => kernel_rfl)
    (case e_NoName => kernel_rfl)
    (case tab => kernel_rfl)
